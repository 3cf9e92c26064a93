/-
  How many codes ahead are a range: the program's rangeAhead. Conditions: the library's variables hold what its text lays; the list is not empty, has at most 64 strings, and the first one has at most 16 bytes.
  The program's Join: its contract (joinM). Conditions: the library's variables hold what its text lays; the list of strings lies in memory.
  A curriculum alone: check of curriculum. Conditions: its courses lie in memory; the variables hold what their text lays.
  Lists of curricula: Check of package entries, Valid of curriculum. Conditions: the curricula lie in memory.
-/
import Derived.Test.YtpaejkhaiifgdaaGreatDoorGN01
import Derived.Test.YtpaejkhaiifgdaaGreatDoorGN02
import Derived.Test.YtpaejkhaiifgdaaGreatDoorGN03
import Derived.Test.YtpaejkhaiifgdaaGreatDoorGN04
import Derived.Test.YtpaejkhaiifgdaaGreatDoorGN05
import Derived.Test.YtpaejkhaiifgdaaGreatDoorGN06
import Derived.Test.YtpaejkhaiifgdaaGreatDoorGN07
import Derived.Test.YtpaejkhaiifgdaaGreatDoorGN08
import Derived.Test.YtpaejkhaiifgdaaGreatDoorGN09
import Derived.Test.YtpaejkhaiifgdaaGreatDoorGN10
import Derived.Test.YtpaejkhaiifgdaaGreatDoorGN11
import Derived.Test.YtpaejkhaiifgdaaGreatDoorGN12
import Derived.Test.YtpaejkhaiifgdaaGreatDoorGN13
import Derived.Test.YtpaejkhaiifgdaaGreatDoorGN14
import Derived.Test.YtpaejkhaiifgdaaGreatDoorGN15
import Derived.Test.YtpaejkhaiifgdaaGreatDoorGN16
import Derived.Test.YtpaejkhaiifgdaaGreatDoorGN17
import Derived.Test.YtpaejkhaiifgdaaGreatDoorGN18
import Derived.Test.YtpaejkhaiifgdaaGreatDoorRN01
import Derived.RangeFuncNested
import Derived.RangeFuncBound
import Derived.RangeFuncCalls
import Derived.RangeFuncLeaves
import Derived.Shelf.Abstract
import Derived.Shelf.RegionOpen
import Derived.OwnWalkIn
import Derived.Lib.Bytealg
import Derived.Lib.ItoaNum
import Derived.Lib.Atoi
import Derived.Lib.SlTrimSet
import Derived.Test.YtpaejkhaiifgdaaGreatDoorProg
import Derived.WalkKit
import Derived.WalkSpells
import Derived.WalkLawsBesides
import Derived.Lib.Hide
import Derived.Deep.QuietTactic
import Derived.BigQuiet
import Derived.Laws.Rows
import Derived.OwnWalk
import Derived.Lib.BufferWrite
import Derived.Lib.UnsafeStr
import Derived.Laws.IdiomStrings
import Derived.Laws.BytesArg
import Derived.Laws.BytesString
import Derived.Shelf.Strings.Builder1
import Derived.Shelf.Strings.Builder2
import Derived.Shelf.Strings.OnBuilder
import Derived.Shelf.Strings.Trim
import Derived.Shelf.Small.Utf8
import Derived.Shelf.Small.Strs
import Derived.Shelf.Strings.BuilderF
import Derived.Shelf.Strings.BuilderK
import Derived.Shelf.Strings.Builder2Cap
import Derived.Shelf.Strconv.Atoi
import Derived.Shelf.Strconv.Itoa0
import Derived.Shelf.Strconv.Itoa1
import Derived.Shelf.LaysM
import Derived.Shelf.Strconv.Itoa2
import Derived.Shelf.Strconv.Itoa3
import Derived.Shelf.Strconv.AtoiErrFast
import Derived.Shelf.Strconv.ParseIntEmpty
import Derived.Shelf.Strconv.AtoiFail
import Derived.Shelf.Strconv.Clone
import Derived.Shelf.Strconv.SyntaxError
import Derived.Shelf.LaysC
import Derived.Shelf.Strconv.ToError
import Derived.Shelf.Strconv.AtoiErr
import Derived.Shelf.Strings.Search1
import Derived.Shelf.Strings.Search2
import Derived.Shelf.Strings.Search3
import Derived.Shelf.Strings.Cut
import Derived.Shelf.Strings.Shaped
import Derived.Shelf.Strings.Prefix
import Derived.Shelf.Strings.Runes
import Derived.Shelf.Strings.AsciiSet
import Derived.Shelf.Bits.Mul64
import Derived.Shelf.Strings.Repeat
import Derived.Shelf.Unicode.DecodeSlow
import Derived.Shelf.Strings.BuilderCap
import Derived.Shelf.Slices.Turned
import Derived.Shelf.Strings.SlTrimAscii
import Derived.Lib.AtoiErrMem
import Derived.Handy
import Derived.Laws.ResultCell
import Derived.RegionTactic
import Derived.Lib.Repeat
import Derived.Deep.RegionHeld3
import Derived.Laws.OwnMore
import Derived.Lib.SlicesS
import Derived.Lib.IndexLaws
import Derived.TacticsInMore
import Derived.LoopNIn
import Derived.LoopIn
import Derived.Deep.DeepCutAuto
import Derived.Lib.Join
import Derived.Laws.Concat
import Derived.Deep.RegionLaw
import Derived.Maps.OwnSet
import Derived.Maps.Range
set_option linter.unusedVariables false
namespace Go.Proofs.YtpaejkhaiifgdaaGreatDoor.S3
open Go Go.Proofs Go.RowKit Go.Lib

theorem baOf {R : ByteArray} {l : Str} (h : lst R = l) : R = ba l := by
  rw [← h]; cases R; rfl
/-- While the list is looked at. -/
structure AK (w W1 wr : World) : Prop where
  b : Below w.heap.size w wr
  c : Below W1.heap.size W1 wr
theorem AK.step {w W1 wr w2 : World} (h : AK w W1 wr) (hb : Below wr.heap.size wr w2) : AK w W1 w2 := ⟨h.b.trans (hb.mono h.b.size), h.c.trans (hb.mono h.c.size)⟩
theorem AK.drew {w W1 wr : World} (h : AK w W1 wr) : AK w W1 wr.drew := ⟨h.b.drew, h.c.drew⟩
theorem AK.at_ {w W1 wr : World} (h : AK w W1 wr) {b off : Nat} {v : Value} (hb : b < W1.heap.size) (hc : W1.cell? ⟨b, off, none⟩ = some v) : wr.cell? ⟨b, off, none⟩ = some v :=
  (h.c.cell (p := ⟨b, off, none⟩) hb).trans hc

set_option maxHeartbeats 12000000 in
set_option maxRecDepth 100000 in
theorem ahead_any (A : Option Addr) (f : Str) (r : List Str) (c : Nat) (Pp : Nat → Prop) (w : World) (h : StrsIn w Pp A (f :: r)) (hPp : ∀ b, Pp b → b < w.heap.size) (h64 : r.length < 64) (hf : f.length ≤ 16) (hE : Env w) :
    Calls Tryz.prog 68 #[.slice A (r.length + 1) c] w fun e w' => e = .returned (.int .i64 (aheadM (f :: r) : Nat)) ∧ Below w.heap.size w w' := by
  rcases h with h | ⟨b, off, rfl, hb, hc⟩
  · cases h
  have cD := divide_any (ba f) hf w hE
  have c0 : w.cell? ⟨b, off, none⟩ = some (.string (ba f)) := hc 0 f rfl
  have hbl := hPp b hb
  have HC := hid hc
  have HE := hid hE
  have ho := (last_len f hf)
  have hnum := numL_small f hf
  obtain ⟨ANS, hANS⟩ : ∃ ANS, aheadM (f :: r) = ANS := ⟨_, rfl⟩
  rw [hANS]
  have HANS := hid hANS
  clear hc hE hANS
  go_enter Tryz.func68, Tryz.ntmps68
  go_wp2_with fail
  refine cD.mono ?_
  rintro e w1 ⟨⟨P, rfl, hP⟩, hb1⟩
  have hPs : P.size ≤ 16 := by rw [show P.size = (lst P).length from Lib.size_eq P, hP]; exact ho.2
  unfold divV
  rw [show lst (ba f) = f from rfl] at hP ⊢
  obtain ⟨nA, hnA⟩ : ∃ n, numL f = n := ⟨_, rfl⟩
  obtain ⟨wA, hwA⟩ : ∃ n, (lastS f).length = n := ⟨_, rfl⟩
  rw [hnA, hwA]
  rw [hnA] at hnum
  rw [hwA] at ho
  have HB1 := hid hb1
  obtain ⟨W1, hW1⟩ : ∃ W1, w1.alloc (.cells #[.string P, .int .i64 (nA : Int), .int .i64 (wA : Int)] 127) = W1 := ⟨_, rfl⟩
  have hz : W1.heap[w1.heap.size]? = some (.cells #[.string P, .int .i64 (nA : Int), .int .i64 (wA : Int)] 127 (0, 0)) := by rw [← hW1]; exact heap_alloc_new w1 _
  have hbW : Below w1.heap.size w1 W1 := by rw [← hW1]; exact (Below.refl _ w1).alloc (Nat.le_refl _) _
  have hlt1 : w1.heap.size < W1.heap.size := (Array.getElem?_eq_some_iff.1 hz).1
  have hbl1 : b < W1.heap.size := by have := hb1.size; omega
  have z0 : W1.cell? ⟨w1.heap.size, 0, none⟩ = some (.string P) := by rw [Lib.cell_of_heap hz]; rfl
  have z1 : W1.cell? ⟨w1.heap.size, 1, none⟩ = some (.int .i64 (nA : Int)) := by rw [Lib.cell_of_heap hz]; rfl
  have z2 : W1.cell? ⟨w1.heap.size, 2, none⟩ = some (.int .i64 (wA : Int)) := by rw [Lib.cell_of_heap hz]; rfl
  have HCW : Hid (∀ (i : Nat) (s : Str), (f :: r)[i]? = some s → W1.cell? ⟨b, off + i, none⟩ = some (.string (ba s))) := hid (fun i s hi =>
    (hbW.cell (p := ⟨b, off + i, none⟩) (by show b < w1.heap.size; have := hb1.size; omega)).trans ((hb1.cell (p := ⟨b, off + i, none⟩) hbl).trans (HC.out i s hi)))
  have HKW : Hid (AK w W1 W1) := hid ⟨hb1.trans (hbW.mono hb1.size), Below.refl _ _⟩
  have Z0 := hid z0
  have Z1 := hid z1
  have Z2 := hid z2
  clear hz z0 z1 z2 cD hbW
  obtain ⟨ok, hok⟩ : ∃ ok, hasL f = ok := ⟨_, rfl⟩
  have HA : Hid (aheadM (f :: r) = if ok = true then aheadGo f 1 r else 1) := hid (by show (if hasL f = true then aheadGo f 1 r else 1) = _; rw [hok])
  rw [HANS.out] at HA
  rw [hok]
  have HNT : Hid (∀ i, nthS f i = lst P ++ wrS (nA + i) wA) := hid (fun i => by unfold nthS; rw [hP, hnA, hwA])
  clear hok hnA hwA hP HANS
  go_wp2
  clear hW1
  go_loopw [3] (fun iv wr => ∃ i : Nat, iv = .int .i64 (i : Int) ∧ 1 ≤ i ∧ i ≤ r.length + 1 ∧ Hid (AK w W1 wr) ∧ Hid (ANS = if ok = true then aheadGo f i (r.drop (i - 1)) else i)) (fun iv _ => r.length + 1 - (RowKit.intOf iv).toNat)
  case atStart => exact ⟨1, rfl, by omega, by omega, HKW, hid (by rw [HA.out]; rfl)⟩
  case round =>
    obtain ⟨i, rfl, hi1, hi2, hK, hAns⟩ := hrel
    cases ok with
    | false =>
      have hr : Hid (ANS = i) := hid (by rw [hAns.out]; simp)
      go_wp2_with fail
      go_quiet (fail)
      go_wp2_with fail
      go_ret
      exact ⟨by rw [hr.out]; rfl, below_drewN hK.out.b _⟩
    | true =>
      have hr : Hid (ANS = aheadGo f i (r.drop (i - 1))) := hid (by rw [hAns.out]; simp)
      clear hAns HA
      by_cases hlt : i < r.length + 1
      · obtain ⟨j, hj⟩ : ∃ j, i = j + 1 := ⟨i - 1, by omega⟩
        have HJ := hid hj
        obtain ⟨s, hs⟩ : ∃ s, r[j]? = some s := ⟨_, List.getElem?_eq_getElem (by omega)⟩
        have hcell := HCW.out i s (by rw [hj, List.getElem?_cons_succ]; exact hs)
        have hstep : Hid (ANS = if s = nthS f i then aheadGo f (i + 1) (r.drop i) else i) := hid (by
          rw [hr.out, hj, show j + 1 - 1 = j by omega, List.drop_eq_getElem_cons (show j < r.length by omega)]
          rw [List.getElem?_eq_getElem (by omega)] at hs
          rw [Option.some.inj hs]
          rfl)
        have c63 : Hid (∀ wx, AK w W1 wx → Calls Tryz.prog 84 #[.agg #[.string P, .int .i64 (nA : Int), .int .i64 (wA : Int)], .int .i64 (i : Int)] wx fun e w' => e = .returned (.string (ba (nthS f i))) ∧ AK w W1 w') := hid (fun wx h => by
          have := after_any P nA wA i hPs (by omega) ho.1 wx (HE.out.below h.b)
          exact this.mono fun e w' ⟨⟨R, he, hl⟩, hb⟩ => ⟨by rw [he, baOf hl, HNT.out], h.step hb⟩)
        have hk := hK.out
        have q0 := hk.at_ hlt1 Z0.out
        have q1 := hk.at_ hlt1 Z1.out
        have q2 := hk.at_ hlt1 Z2.out
        have h0 := hk.at_ hbl1 hcell
        have hiz : (i : Int) < (r.length : Int) + 1 := by omega
        have hid1 : decide ((i : Int) < (r.length : Int) + 1) = true := decide_eq_true hiz
        have hid2 : decide (i < r.length + 1) = true := decide_eq_true hlt
        clear hj
        obtain ⟨S, hS⟩ : ∃ S, ba s = S := ⟨_, rfl⟩
        obtain ⟨T, hT⟩ : ∃ T, ba (nthS f i) = T := ⟨_, rfl⟩
        rw [hS] at hcell h0
        rw [hT] at c63
        rcases str_eq (a := S) (b := T) with ⟨he, t1, t2⟩ | ⟨he, t1, t2⟩
        · have hst : Hid (ANS = aheadGo f (i + 1) (r.drop i)) := hid (by
            rw [hstep.out, if_pos]
            rw [← hS, ← hT] at he
            exact he)
          have hk' : AK w W1 wr.drew := hK.out.drew
          have HCELL := hid hcell
          clear hS hT hK hr hstep hs he hcell h0 q0 q1 q2 hk
          go_wp2_with fail
          go_region_held3 (fun w' => w'.cell? ⟨w1.heap.size, 0, none⟩ = some (.string P) ∧ w'.cell? ⟨w1.heap.size, 1, none⟩ = some (.int .i64 (nA : Int)) ∧ w'.cell? ⟨w1.heap.size, 2, none⟩ = some (.int .i64 (wA : Int)) ∧ w'.cell? ⟨b, off + i, none⟩ = some (.string S))
            (first | exact ⟨hk'.at_ hlt1 Z0.out, hk'.at_ hlt1 Z1.out, hk'.at_ hlt1 Z2.out, hk'.at_ hbl1 HCELL.out⟩)
            (first | (go_at_call 84; refine (c63.out _ hk').mono ?_; rintro e w' ⟨rfl, hk'⟩))
          all_goals
            have HK' := hid hk'
            clear hk' c63
            go_wp2_with fail
            go_roundw
            case rel => exact ⟨i + 1, by go_num, by omega, by omega, HK'.out |> hid, hid (by rw [hst.out]; rfl)⟩
            case measure => simp [RowKit.intOf]; omega
        · have hst : Hid (ANS = i) := hid (by
            rw [hstep.out, if_neg]
            rw [← hS, ← hT] at he
            exact he)
          have hk' : AK w W1 wr.drew := hK.out.drew
          have HCELL := hid hcell
          clear hS hT hK hr hstep hs he hcell h0 q0 q1 q2 hk
          go_wp2_with fail
          go_region_held3 (fun w' => w'.cell? ⟨w1.heap.size, 0, none⟩ = some (.string P) ∧ w'.cell? ⟨w1.heap.size, 1, none⟩ = some (.int .i64 (nA : Int)) ∧ w'.cell? ⟨w1.heap.size, 2, none⟩ = some (.int .i64 (wA : Int)) ∧ w'.cell? ⟨b, off + i, none⟩ = some (.string S))
            (first | exact ⟨hk'.at_ hlt1 Z0.out, hk'.at_ hlt1 Z1.out, hk'.at_ hlt1 Z2.out, hk'.at_ hbl1 HCELL.out⟩)
            (first | (go_at_call 84; refine (c63.out _ hk').mono ?_; rintro e w' ⟨rfl, hk'⟩))
          all_goals
            go_wp2_with fail
            go_ret
            exact ⟨by rw [hst.out]; rfl, hk'.b⟩
      · obtain rfl : i = r.length + 1 := by omega
        have hr2 : Hid (ANS = r.length + 1) := hid (by rw [hr.out, List.drop_of_length_le (by omega)]; rfl)
        have hd1 : decide ((r.length : Int) + 1 < (r.length : Int) + 1) = false := decide_eq_false (by omega)
        go_wp2_with fail
        go_quiet (fail)
        go_wp2_with fail
        go_ret
        exact ⟨by rw [hr2.out]; rfl, below_drewN hK.out.b _⟩
end Go.Proofs.YtpaejkhaiifgdaaGreatDoor.S3

set_option linter.unusedVariables false
namespace Go.Proofs.YtpaejkhaiifgdaaGreatDoor.S3
open Go Go.Proofs Go.RowKit Go.Lib

theorem joinP_fuel : ∀ (n : Nat) (l : List Str) (k : Nat), l.length ≤ n → l.length ≤ k → joinP k l = joinP n l
  | 0, l, k, h, _ => by
    obtain rfl : l = [] := List.eq_nil_of_length_eq_zero (by omega)
    cases k <;> rfl
  | n + 1, [], k, _, _ => by cases k <;> rfl
  | n + 1, f :: r, 0, _, h => by simp at h
  | n + 1, f :: r, k + 1, h1, h2 => by
    simp only [List.length_cons] at h1 h2
    have hp := ahead_pos f r
    have ih1 := joinP_fuel n ((f :: r).drop (aheadM (f :: r))) k (by simp; omega) (by simp; omega)
    have ih2 := joinP_fuel n r k (by omega) (by omega)
    simp only [joinP]
    rw [ih1, ih2]
/-- The parts of a list's text. -/
def partsL (l : List Str) : List Str := joinP l.length l
theorem partsL_nil : partsL [] = [] := rfl
theorem partsL_range (f : Str) (r : List Str) (h : 3 ≤ aheadM (f :: r)) : partsL (f :: r) = rangeT f (aheadM (f :: r)) :: partsL ((f :: r).drop (aheadM (f :: r))) := by
  unfold partsL
  show joinP (r.length + 1) (f :: r) = _
  simp only [joinP]
  rw [if_pos h]
  congr 1
  have hp := ahead_pos f r
  exact joinP_fuel _ _ _ (Nat.le_refl _) (by simp; omega)
theorem partsL_one (f : Str) (r : List Str) (h : ¬ 3 ≤ aheadM (f :: r)) : partsL (f :: r) = f :: partsL r := by
  unfold partsL
  show joinP (r.length + 1) (f :: r) = _
  simp only [joinP]
  rw [if_neg h]
theorem partsL_len : ∀ (n : Nat) (l : List Str), l.length ≤ n → (partsL l).length ≤ l.length
  | 0, l, h => by
    obtain rfl : l = [] := List.eq_nil_of_length_eq_zero (by omega)
    simp [partsL_nil]
  | n + 1, [], _ => by simp [partsL_nil]
  | n + 1, f :: r, h => by
    simp only [List.length_cons] at h
    have hp := ahead_pos f r
    by_cases h3 : 3 ≤ aheadM (f :: r)
    · rw [partsL_range f r h3]
      have := partsL_len n ((f :: r).drop (aheadM (f :: r))) (by simp; omega)
      simp at this ⊢
      omega
    · rw [partsL_one f r h3]
      have := partsL_len n r (by omega)
      simp
      omega
theorem semi_join : ∀ l : List Str, Lib.join l [59] = semi l
  | [] => rfl
  | [p] => by rw [Lib.join_one]; rfl
  | p :: q :: r => by
    have ih := semi_join (q :: r)
    rw [Lib.join_cons] at ih ⊢
    show p ++ Lib.joinTail [59] (q :: r) = p ++ 59 :: semi (q :: r)
    rw [← ih]
    simp [Lib.joinTail]
theorem semi_len : ∀ (l : List Str), (∀ p ∈ l, p.length ≤ 40) → (semi l).length ≤ 41 * l.length
  | [], _ => by simp [semi]
  | [p], h => by have := h p (.head _); simp [semi]; omega
  | p :: q :: r, h => by
    have ih := semi_len (q :: r) (fun x hx => h x (.tail _ hx))
    have := h p (.head _)
    show (p ++ 59 :: semi (q :: r)).length ≤ _
    simp at ih ⊢
    omega
theorem parts_short : ∀ (n : Nat) (l : List Str), l.length ≤ n → (∀ c ∈ l, validC c = true) → ∀ p ∈ partsL l, p.length ≤ 40
  | 0, l, h, _, p, hp => by
    obtain rfl : l = [] := List.eq_nil_of_length_eq_zero (by omega)
    simp [partsL_nil] at hp
  | n + 1, [], _, _, p, hp => by simp [partsL_nil] at hp
  | n + 1, f :: r, h, hv, p, hp => by
    simp only [List.length_cons] at h
    have hpos := ahead_pos f r
    by_cases h3 : 3 ≤ aheadM (f :: r)
    · rw [partsL_range f r h3] at hp
      rcases List.mem_cons.1 hp with rfl | hp
      · have hnv : validC (nthS f (aheadM (f :: r) - 1)) = true := by
          have := ahead_nth f r (aheadM (f :: r) - 2) (by omega)
          rw [show aheadM (f :: r) - 2 + 1 = aheadM (f :: r) - 1 by omega] at this
          exact hv _ (List.mem_cons_of_mem _ (List.mem_of_getElem? this))
        have h1 := validC_len (hv f (.head _))
        have h2 := validC_len hnv
        unfold rangeT
        simp
        omega
      · exact parts_short n _ (by simp; omega) (fun c hc => hv c (List.mem_of_mem_drop hc)) p hp
    · rw [partsL_one f r h3] at hp
      rcases List.mem_cons.1 hp with rfl | hp
      · have := validC_len (hv p (.head _)); omega
      · exact parts_short n r (by omega) (fun c hc => hv c (.tail _ hc)) p hp

def sliceLen : Value → Nat | .slice _ n _ => n | _ => 0
/-- What Join hands back. -/
def JoinOut (l : List Str) (w : World) (e : Ending) (w' : World) : Prop :=
  e = .returned (.tuple #[.string (ba (if checkM l = 0 then joinM l else [])), .int .i64 (checkM l)]) ∧ Below w.heap.size w w'
theorem ba_app (a b : Str) : ba a ++ ba b = ba (a ++ b) := by
  apply ByteArray.ext
  simp [ba]
theorem ba_size (a : Str) : (ba a).size = a.length := by
  show a.toArray.size = _
  simp
theorem strs_rest {w : World} {P : Nat → Prop} {b off : Nat} {l : List Str} (h : StrsIn w P (some ⟨b, off, none⟩) l) (n c : Nat) (hlc : l.length ≤ c) : StrsIn w P (if c = n then some ⟨b, off, none⟩ else some ⟨b, off + n, none⟩) (l.drop n) := by
  have := h.rest n c hlc
  rwa [Option.map_some, Addr.add_lit] at this

set_option maxHeartbeats 8000000 in
set_option maxRecDepth 100000 in
theorem cjoin_any (A : Option Addr) (l : List Str) (c : Nat) (w : World) (h : StrsIn w (fun b => b < w.heap.size) A l) (hlc : l.length ≤ c) (hc : c ≤ 9223372036854775807) (hE : Env w) :
    Calls Tryz.prog 51 #[.slice A l.length c] w (JoinOut l w) := by
  have cC := hid (check_any A l c _ w h hlc hc)
  by_cases hk : checkM l = 0
  · obtain ⟨h64, hv⟩ := check_valid hk
    have HV := hid hv
    unfold JoinOut
    rw [if_pos hk, hk]
    rw [hk] at cC
    have H : Hid (∀ w' : World, Below w.heap.size w w' → StrsIn w' (fun b => b < w.heap.size) A l) := hid (fun w' hb => h.kept (fun b hlt => hb.block b hlt))
    have HE := hid hE
    have HS : Hid (joinM l = semi (partsL l)) := hid rfl
    have HP4 := hid (parts_short _ l (Nat.le_refl _) hv)
    have HPL := hid (partsL_len _ l (Nat.le_refl _))
    rw [HS.out]
    obtain ⟨i9, hi9, hz9, hsi9, hby9⟩ := info_parts infoStr
    clear h hv hE hk
    go_enter Tryz.func51, Tryz.ntmps51
    go_wp2_with fail
    refine cC.out.mono ?_
    rintro e w1 ⟨rfl, rfl⟩
    go_wp2_with fail
    go_loopw [0, 5] (fun sv v wr => ∃ (n c' : Nat) (A' : Option Addr) (ps : List Str), sv = .slice A' (l.drop n).length c' ∧ Hid (StrsIn wr (fun b => b < w.heap.size) A' (l.drop n)) ∧ (l.drop n).length ≤ c' ∧ c' ≤ 9223372036854775807 ∧ n ≤ l.length ∧ Hid (partsL l = ps ++ partsL (l.drop n)) ∧ StrRow wr w.heap.size v ps ∧ Hid (Below w.heap.size w wr)) (fun sv _ _ => sliceLen sv)
    case atStart => exact ⟨0, c, A, [], rfl, hid (H.out w (Below.refl _ _)), hlc, hc, by omega, hid rfl, World.ownsRow_nil _ _ _ _, hid (Below.refl _ _)⟩
    case round =>
      obtain ⟨n, c', A', ps, rfl, hIn, hlc', hc', hn, hps, hrow, hB⟩ := hrel
      obtain ⟨Ar, cr, rfl⟩ := row_slice hrow
      have HRow := hid hrow
      have HE1 := hid (HE.out.below hB.out)
      clear hrow
      have hpl : ps.length + (partsL (l.drop n)).length ≤ 64 := by
        have h1 := HPL.out
        have h2 := congrArg List.length hps.out
        rw [List.length_append] at h2
        omega
      cases hr : l.drop n with
      | nil =>
        rw [hr] at hps hIn hlc' hpl
        have HPS : Hid (partsL l = ps) := hid (by rw [hps.out, partsL_nil, List.append_nil])
        clear hr hps
        obtain ⟨A5, c5, eA, hl5, hc5, hI5⟩ := HRow.out.strsIn
        have hA5 : Hid (Ar = A5 ∧ cr = c5) := hid (by injection eA with e1 _ e3; exact ⟨e1, e3⟩)
        obtain ⟨rfl, rfl⟩ := hA5.out
        have cJ : Hid (Calls Tryz.prog 69 #[.slice Ar ps.length cr, .string ⟨#[59]⟩] wr fun e w' => e = .returned (.string (ba (semi ps))) ∧ Below wr.heap.size wr w') := hid (by
          rcases hI5 with h | ⟨b, off, rfl, hb, hcell⟩
          · subst h
            exact (Tryz.strings_Join_none Ar cr ⟨#[59]⟩ wr).mono fun e w' ⟨h1, h2⟩ => ⟨h1, h2 ▸ Below.refl _ _⟩
          · have hj := Tryz.strings_Join b off cr (ps.map ba) ⟨#[59]⟩ wr (fun j x hx => by
              rw [List.getElem?_map] at hx
              obtain ⟨y, hy, rfl⟩ := Option.map_eq_some_iff.1 hx
              exact hcell j y hy) hb.2 (by simp; omega) (by simpa using hl5) (by
              have e : (ps.map ba).map (·.data.toList) = ps := by simp [Function.comp_def, ba]
              rw [e, show (⟨#[59]⟩ : ByteArray).data.toList = [59] from rfl, semi_join]
              have := semi_len ps (fun p hp => HP4.out p (by rw [HPS.out]; exact hp))
              omega)
            have e : (ps.map ba).map (·.data.toList) = ps := by simp [Function.comp_def, ba]
            rw [e, show (⟨#[59]⟩ : ByteArray).data.toList = [59] from rfl, semi_join, List.length_map] at hj
            exact hj)
        clear eA hA5 hI5 hl5 hc5 hlc' hIn
        go_wp2_with fail
        refine cJ.out.mono ?_
        rintro e w2 ⟨rfl, hb2⟩
        have HB2 := hid (hB.out.trans (hb2.mono hB.out.size))
        clear hb2
        go_wp2_with fail
        go_ret2
        exact ⟨by rw [HPS.out]; rfl, HB2.out⟩
      | cons f r =>
        rw [hr] at hps hIn hlc' hpl
        have hdl : l.length - n = r.length + 1 := by
          have := congrArg List.length hr
          simpa using this
        have hvf : ∀ x ∈ f :: r, validC x = true := fun x hx => HV.out x (List.mem_of_mem_drop (by rw [hr]; exact hx))
        have hf16 := validC_len (hvf f (.head _))
        have hdd : ∀ j, (f :: r).drop j = l.drop (n + j) := fun j => by rw [← hr, List.drop_drop]
        have cA := hid (ahead_any A' f r c' (fun b => b < w.heap.size) wr hIn.out (fun b hb => Nat.lt_of_lt_of_le hb hB.out.size) (by omega) hf16 HE1.out)
        obtain ⟨b, off, rfl, hbl, hcell⟩ : ∃ b off, A' = some ⟨b, off, none⟩ ∧ b < w.heap.size ∧ ∀ (j : Nat) (s : Str), (f :: r)[j]? = some s → wr.cell? ⟨b, off + j, none⟩ = some (.string (ba s)) := by
          rcases hIn.out with h | h
          · cases h
          · exact h
        have hpos := ahead_pos f r
        have hR := partsL_range f r
        have hO := partsL_one f r
        have hnth := ahead_nth f r
        obtain ⟨run, hrun⟩ : ∃ run, aheadM (f :: r) = run := ⟨_, rfl⟩
        rw [hrun] at cA hpos hR hO hnth
        have hc0 := hcell 0 f rfl
        rw [Nat.add_zero] at hc0
        have HCELL := hid hcell
        have HR := hid hR
        have HO := hid hO
        have HNTH := hid hnth
        have HDD := hid hdd
        have HVF := hid hvf
        clear hcell hR hO hnth hdd hrun hr hvf
        go_wp2_with fail
        refine cA.out.mono ?_
        rintro e w2 ⟨rfl, hb2⟩
        have HB2 := hid (hB.out.trans (hb2.mono hB.out.size))
        have HIn2 : Hid (StrsIn w2 (fun b => b < w.heap.size) (some ⟨b, off, none⟩) (f :: r)) := hid (hIn.out.kept (fun b' hb' => hb2.block b' (Nat.lt_of_lt_of_le hb' hB.out.size)))
        have HRow2 : Hid (StrRow w2 w.heap.size _ ps) := hid (row_under HRow.out hb2)
        have HC2 : Hid (∀ (j : Nat) (s : Str), (f :: r)[j]? = some s → w2.cell? ⟨b, off + j, none⟩ = some (.string (ba s))) := hid (fun j s hj => (hb2.cell (p := ⟨b, off + j, none⟩) (Nat.lt_of_lt_of_le hbl hB.out.size)).trans (HCELL.out j s hj))
        clear hb2 cA HCELL HE1 HRow hIn hB
        by_cases h3 : 3 ≤ run
        · have hX : (f :: r)[run - 1]? = some (nthS f (run - 1)) := by
            have := HNTH.out (run - 2) (by omega)
            rw [show run - 2 + 1 = run - 1 by omega] at this
            rw [show run - 1 = run - 2 + 1 by omega, List.getElem?_cons_succ, this, show run - 2 + 1 = run - 1 by omega]
          have hXv := validC_len (HVF.out _ (List.mem_of_getElem? hX))
          have hcX := HC2.out _ _ hX
          have hc0' := HC2.out 0 f rfl
          rw [Nat.add_zero] at hc0'
          have HRT : Hid (rangeT f run = f ++ 46 :: 46 :: nthS f (run - 1)) := hid rfl
          obtain ⟨X, hXe⟩ : ∃ X, nthS f (run - 1) = X := ⟨_, rfl⟩
          rw [hXe] at hXv hcX HRT
          have add1 : ∀ w, (Op.stringOp .add (ba f) ⟨#[46, 46]⟩).run Tryz.prog w = .ok (.string (ba f ++ ⟨#[46, 46]⟩)) w := fun w => run_string_add_sum (w := w) _ _ (by rw [ba_size]; have : (⟨#[46, 46]⟩ : ByteArray).size = 2 := rfl; omega)
          have add2 : ∀ w, (Op.stringOp .add (ba f ++ ⟨#[46, 46]⟩) (ba X)).run Tryz.prog w = .ok (.string (ba f ++ ⟨#[46, 46]⟩ ++ ba X)) w := fun w => run_string_add_sum (w := w) _ _ (by rw [ByteArray.size_append, ba_size, ba_size]; have : (⟨#[46, 46]⟩ : ByteArray).size = 2 := rfl; omega)
          have hT : ba f ++ ⟨#[46, 46]⟩ ++ ba X = ba (rangeT f run) := by
            rw [HRT.out, show (⟨#[46, 46]⟩ : ByteArray) = ba [46, 46] from rfl, ba_app, ba_app]
            simp
          rw [hT] at add2
          obtain ⟨T, hTe⟩ : ∃ T, rangeT f run = T := ⟨_, rfl⟩
          rw [hTe] at add2
          have HT := hid hTe
          have h3z : (3 : Int) ≤ (run : Int) := by omega
          have q1 : IntKind.i64.wrap ((run : Int) - 1) = (run : Int) - 1 := IntWalk.i64_in _ (by omega)
          have q2 : (1 : Int) ≤ (run : Int) := by omega
          have q3 : ((run : Int) - 1).toNat = run - 1 := by omega
          have q4 : (run : Int) - 1 < (r.length : Int) + 1 := by omega
          clear hX hXe hT hTe
          go_wp2_with fail
          go_quiet (fail)
          have hd2 : Below w2.heap.size w2 (w2.drewN nq) := below_drewN (Below.refl _ _) nq
          have HB3 : Hid (Below w.heap.size w (w2.drewN nq)) := hid (below_drewN HB2.out nq)
          have HIn3 : Hid (StrsIn (w2.drewN nq) (fun b => b < w.heap.size) (some ⟨b, off, none⟩) (f :: r)) := hid (HIn2.out.kept (fun b' hb' => hd2.block b' (Nat.lt_of_lt_of_le hb' HB2.out.size)))
          have HRow3 : Hid (StrRow (w2.drewN nq) w.heap.size _ ps) := hid (row_under HRow2.out hd2)
          clear hd2 HB2 HIn2 HRow2 HC2 hc0' hcX add1 add2
          generalize w2.drewN nq = w3 at HB3 HIn3 HRow3 ⊢
          have HC3 : Hid (ps.length + 1 ≤ maxLen) := by unfold maxLen; exact hid (by omega)
          have HC4 : Hid ((ps.length + 1) * 16 ≤ 140737488355328) := hid (by omega)
          have HC5 : Hid (∀ o : Obj, w.heap.size ≤ (w3.alloc o).heap.size) := hid (fun o => by have := HB3.out.size; simp; omega)
          go_wp2_with (at_builtin; refine wpList_append_own _ rfl _ _ 39 rfl w.heap.size 9 i9 (.string ⟨#[]⟩) 1 16 Tryz.underlying39 hi9 hz9 hsi9 hby9 rfl (by decide) _ ps.length (strVals ps) rfl (World.ownsRow.alloc HRow3.out _) ⟨w3.heap.size, 0, none⟩ 1 1 [.string (ba T)] rfl rfl (one_new _ _ _) (one_str _) HC3.out HC4.out (HC5.out _) ?_)
          intro v' w4 hown' hgrow _
          have hg' := grownBy_of_alloc hgrow
          have hb24 : Below w.heap.size w3 w4 := (Below.refl _ w3).grown hg' HB3.out.size (fun k hk => (World.ownsRow.lt HRow3.out k hk).1)
          have HB4 := hid (HB3.out.trans hb24)
          have HIn4 : Hid (StrsIn w4 (fun b => b < w.heap.size) (if c' = run then some ⟨b, off, none⟩ else some ⟨b, off + run, none⟩) ((f :: r).drop run)) := hid (strs_rest (HIn3.out.kept (fun b' hb' => hb24.block b' hb')) run c' hlc')
          have HOwn := hid hown'
          clear hb24 hg' hgrow hown'
          go_wp2_with fail
          go_roundw
          case rel =>
            have hr1 : l.drop (n + run) = (f :: r).drop run := (HDD.out run).symm
            have hr2 : (l.drop (n + run)).length = r.length + 1 - run := by rw [hr1]; simp
            refine ⟨n + run, c' - run, _, ps ++ [T], by rw [hr2], hid (by rw [hr1]; exact HIn4.out), by rw [hr2]; simp at hlc'; omega, by omega, by omega, hid (by rw [hr1, hps.out, HR.out h3, HT.out]; simp), ?_, HB4⟩
            unfold StrRow
            rw [strVals_app, List.length_append]
            exact HOwn.out
          case measure => simp [sliceLen]; omega
        · have h3z : ¬ (3 : Int) ≤ (run : Int) := by omega
          have hc0' := HC2.out 0 f rfl
          rw [Nat.add_zero] at hc0'
          have HC3 : Hid (ps.length + 1 ≤ maxLen) := by unfold maxLen; exact hid (by omega)
          have HC4 : Hid ((ps.length + 1) * 16 ≤ 140737488355328) := hid (by omega)
          have HC5 : Hid (∀ o : Obj, w.heap.size ≤ (w2.alloc o).heap.size) := hid (fun o => by have := HB2.out.size; simp; omega)
          go_wp2_with (at_builtin; refine wpList_append_own _ rfl _ _ 39 rfl w.heap.size 9 i9 (.string ⟨#[]⟩) 1 16 Tryz.underlying39 hi9 hz9 hsi9 hby9 rfl (by decide) _ ps.length (strVals ps) rfl (World.ownsRow.alloc HRow2.out _) ⟨w2.heap.size, 0, none⟩ 1 1 [.string (ba f)] rfl rfl (one_new _ _ _) (one_str _) HC3.out HC4.out (HC5.out _) ?_)
          intro v' w4 hown' hgrow _
          have hg' := grownBy_of_alloc hgrow
          have hb24 : Below w.heap.size w2 w4 := (Below.refl _ w2).grown hg' HB2.out.size (fun k hk => (World.ownsRow.lt HRow2.out k hk).1)
          have HB4 := hid (HB2.out.trans hb24)
          have HIn4 : Hid (StrsIn w4 (fun b => b < w.heap.size) (if c' = 1 then some ⟨b, off, none⟩ else some ⟨b, off + 1, none⟩) ((f :: r).drop 1)) := hid (strs_rest (HIn2.out.kept (fun b' hb' => hb24.block b' hb')) 1 c' hlc')
          have HOwn := hid hown'
          clear hb24 hg' hgrow hown'
          go_wp2_with fail
          go_roundw
          case rel =>
            have hr1 : l.drop (n + 1) = r := (HDD.out 1).symm
            refine ⟨n + 1, c' - 1, _, ps ++ [f], by rw [hr1], hid (by rw [hr1]; exact HIn4.out), by rw [hr1]; simp at hlc'; omega, by omega, by omega, hid (by rw [hr1, hps.out, HO.out h3]; simp), ?_, HB4⟩
            unfold StrRow
            rw [strVals_app, List.length_append]
            exact HOwn.out
          case measure => simp [sliceLen]
  · unfold JoinOut
    rw [if_neg hk]
    have hkz : (checkM l == 0) = false := by simpa using hk
    have hkz' : (checkM l != 0) = true := by simpa using hk
    generalize checkM l = K at cC hkz hkz'
    clear h hE hk
    go_enter Tryz.func51, Tryz.ntmps51
    go_wp2_with fail
    refine cC.out.mono ?_
    rintro e w1 ⟨rfl, rfl⟩
    go_wp2_with fail
    go_ret2
    exact ⟨rfl, Below.refl _ _⟩
end Go.Proofs.YtpaejkhaiifgdaaGreatDoor.S3

set_option linter.unusedVariables false
namespace Go.Proofs.YtpaejkhaiifgdaaGreatDoor.S11
open Go Go.Proofs Go.RowKit Go.Lib Go.Proofs.YtpaejkhaiifgdaaGreatDoor

set_option maxHeartbeats 8000000 in
set_option maxRecDepth 100000 in
theorem ucheck_any (x : CurrD) (q : CurrA) (w : World) (h : CurrIn w (fun b => b < w.heap.size) x q) (hE : S3.Env w) :
    Calls Tryz.prog 43 #[currV x q] w (Says (.int .i64 (currM x)) w) := by
  obtain ⟨code, cs⟩ := x
  obtain ⟨A2, c2⟩ := q
  obtain ⟨ht, ht1, ht2⟩ := h
  dsimp only at ht ht1 ht2
  unfold currV Says
  dsimp only
  have hx0 := Box2.new w (.string (ba code)) (.slice A2 cs.length c2)
  have hb0 := (Below.refl w.heap.size w).alloc (Nat.le_refl _) (.cells #[.string (ba code), .slice A2 cs.length c2] 41)
  have cV1 := fun w => S3.valid_any (ba code) w
  have cJ := hid (fun (w' : World) (hb : Below w.heap.size w w') => S3.cjoin_any A2 cs c2 w' ((ht.below hb).mono (fun k hk => Nat.lt_of_lt_of_le hk hb.size)) ht1 ht2 (hE.below hb))
  obtain ⟨R, hR⟩ : ∃ R, currM (code, cs) = R := ⟨_, rfl⟩
  rw [hR]
  rw [show (ba code).data.toList = code from rfl] at cV1
  unfold currM at hR
  dsimp only at hR
  obtain ⟨V1, hV1⟩ : ∃ V, S3.validC code = V := ⟨_, rfl⟩
  rw [hV1] at cV1 hR
  obtain ⟨X1, hX1⟩ : ∃ X, ba code = X := ⟨_, rfl⟩
  rw [hX1] at hx0 hb0 cV1 ⊢
  have cJ' := cJ.out
  unfold S3.JoinOut at cJ'
  obtain ⟨JT, hJT⟩ : ∃ T, (S3.ba (if S3.checkM cs = 0 then S3.joinM cs else [])) = T := ⟨_, rfl⟩
  obtain ⟨CK, hCK⟩ : ∃ T, S3.checkM cs = T := ⟨_, rfl⟩
  rw [hJT, hCK] at cJ'
  rw [hCK] at hR
  obtain ⟨T1, hT1⟩ : ∃ F, cs.length = F := ⟨_, rfl⟩
  rw [hT1] at hx0 hb0 cJ' hR ⊢
  have CJ := hid cJ'
  clear ht cJ cJ' hV1 hX1 ht1 hT1 hJT hCK hE
  have HX0 := hid hx0
  have HB0 := hid hb0
  clear hx0 hb0
  cases V1 with
  | false =>
    obtain rfl : R = 10 := by rw [← hR]; simp
    clear hR
    go_enter Tryz.func43, Tryz.ntmps43
    go_wp2_with fail
    generalize World.alloc _ _ = wx at HX0 HB0 ⊢
    obtain ⟨x0, x1⟩ := HX0.out.cells
    refine (cV1 _).mono ?_
    rintro e w' ⟨rfl, rfl⟩
    go_wp2
    go_ret
    exact ⟨rfl, HB0.out⟩
  | true =>
  rw [if_neg (by simp)] at hR
  by_cases z1 : T1 = 0
  · subst z1
    obtain rfl : R = 16 := by rw [← hR]; simp
    clear hR
    go_enter Tryz.func43, Tryz.ntmps43
    go_wp2_with fail
    generalize World.alloc _ _ = wx at HX0 HB0 ⊢
    obtain ⟨x0, x1⟩ := HX0.out.cells
    refine (cV1 _).mono ?_
    rintro e w' ⟨rfl, rfl⟩
    go_wp2
    go_ret
    exact ⟨rfl, HB0.out⟩
  have z1i : ¬ (T1 : Int) = 0 := by omega
  have z1b : ((T1 : Int) == 0) = false := by simpa using z1
  rw [if_neg z1] at hR
  by_cases z2 : 8 < T1
  · have z2' : (8 : Int) < (T1 : Int) := by omega
    have z2d : decide ((8 : Int) < (T1 : Int)) = true := decide_eq_true z2'
    obtain rfl : R = 2 := by rw [← hR, if_pos z2]
    clear hR
    go_enter Tryz.func43, Tryz.ntmps43
    go_wp2_with fail
    generalize World.alloc _ _ = wx at HX0 HB0 ⊢
    obtain ⟨x0, x1⟩ := HX0.out.cells
    refine (cV1 _).mono ?_
    rintro e w' ⟨rfl, rfl⟩
    go_wp2
    go_ret
    exact ⟨rfl, HB0.out⟩
  have z2' : ¬ (8 : Int) < (T1 : Int) := by omega
  have z2d : decide ((8 : Int) < (T1 : Int)) = false := decide_eq_false z2'
  rw [if_neg z2] at hR
  subst hR
  clear z2
  go_enter Tryz.func43, Tryz.ntmps43
  go_wp2_with fail
  generalize World.alloc _ _ = wx at HX0 HB0 ⊢
  obtain ⟨x0, x1⟩ := HX0.out.cells
  refine (cV1 _).mono ?_
  rintro e w' ⟨rfl, rfl⟩
  go_wp2_with fail
  refine (CJ.out _ HB0.out).mono ?_
  rintro e w2 ⟨rfl, hb⟩
  have HB := hid (HB0.out.trans (hb.mono HB0.out.size))
  clear hb
  go_wp2
  go_ret
  exact ⟨rfl, HB.out⟩
end Go.Proofs.YtpaejkhaiifgdaaGreatDoor.S11

set_option linter.unusedVariables false
namespace Go.Proofs.YtpaejkhaiifgdaaGreatDoor.S11
open Go Go.Proofs Go.RowKit Go.Lib Go.Proofs.YtpaejkhaiifgdaaGreatDoor

theorem addK_ok {l : List Str} {c : Str} (hm : c ∉ l) (hl : l.length < 16) : addK 16 l c = (l ++ [c], 0) := by
  unfold addK; rw [if_neg hm, if_neg (by omega)]
theorem addK_dup {l : List Str} {c : Str} (hm : c ∈ l) : addK 16 l c = (l, 11) := if_pos hm
set_option maxHeartbeats 16000000 in
set_option maxRecDepth 100000 in
theorem chk_any (A : Option Addr) (l : List CurrD) (c KB AB MB M : Nat) (w : World) (h : CurrsIn w (fun k => k < M) A l) (hM : KMap w M []) (hEn : ∀ W, w.grownBy W (some M) → S3.Env W) (hC : CK KB AB MB M w) :
    Calls Tryz.prog 42 #[.slice A l.length c, .int .i64 16, .func (.func 43) #[] #[],
      .func (.func 57) #[] #[.pointer (some ⟨KB, 0, none⟩), .pointer (some ⟨AB, 0, none⟩), .pointer (some ⟨MB, 0, none⟩)]] w
      fun e w' => e = .returned (.int .i64 (if 16 < l.length then 2 else goU [] l)) ∧ w.grownBy w' (some M) := by
  have eg1 : ∀ args w, (callFunc 43 args).run Tryz.prog w = .ok (.enter 43 args) w := enters_of Tryz.func43 (by kernel_rfl) rfl
  have eg2 : ∀ args w, (callFunc 57 args).run Tryz.prog w = .ok (.enter 57 args) w := enters_of Tryz.func57 (by kernel_rfl) rfl
  obtain ⟨R, hR⟩ : ∃ R, (if 16 < l.length then 2 else goU [] l) = R := ⟨_, rfl⟩
  rw [hR]
  have hg0 : w.grownBy w (some M) := grown_none (below_grown (Below.refl _ w) (Nat.le_refl _))
  by_cases h32 : 16 < l.length
  · rw [if_pos h32] at hR
    subst hR
    have hz : (16 : Int) < (l.length : Int) := by omega
    have HG0 := hid hg0
    clear hg0 hC hM h hEn h32
    go_enter Tryz.func42, Tryz.ntmps42
    go_wp2
    go_ret
    exact ⟨rfl, HG0.out⟩
  · rw [if_neg h32] at hR
    have hz : ¬ (16 : Int) < (l.length : Int) := by omega
    have HR : Hid (goU (codesU (l.take 0)) (l.drop 0) = R) := hid hR
    have hENV := hid hEn
    have HM := hid hM
    have HC := hid hC
    have HH := hid h
    have HG0 := hid hg0
    have HMl := hid hM.lt
    clear hR hg0 hC hM h hEn
    go_enter Tryz.func42, Tryz.ntmps42
    go_wp2
    go_loopw [10, 11, 12, 19] (fun _ _ _ iv wr => ∃ i : Nat, iv = .int .i64 (i : Int) ∧ i ≤ l.length ∧ Hid (goU (codesU (l.take i)) (l.drop i) = R) ∧ Hid (KMap wr M (codesU (l.take i))) ∧ Hid (w.grownBy wr (some M))) (fun _ _ _ iv _ => l.length - (RowKit.intOf iv).toNat)
    case atStart => exact ⟨0, rfl, Nat.zero_le _, HR, hid HM.out, HG0⟩
    case round =>
      obtain ⟨i, rfl, hi, hE, hS, hK⟩ := hrel
      by_cases hlt : i < l.length
      · have hltz : (i : Int) < (l.length : Int) := by omega
        have hst := goU_step l i hlt
        rw [hE.out] at hst
        have hcl : (codesU (l.take i)).length = i := by simp [codesU]; omega
        have hCr := HC.out.grown hK.out
        obtain ⟨fb, fo, q, rfl, hfb, hri, y0, y1⟩ := (HH.out.kept (fun k hk => hK.out.block k (Nat.lt_trans hk HMl.out) (fun e => by injection e with e; omega))).at_ hlt
        have hadd : codesU (l.take (i + 1)) = codesU (l.take i) ++ [l[i].1] := by rw [List.take_succ_eq_append_getElem hlt]; unfold codesU; rw [List.map_append]; rfl
        have hMwr : M < wr.heap.size := Nat.lt_of_lt_of_le HMl.out hK.out.size
        have hb1 := (Below.refl wr.heap.size wr).alloc (Nat.le_refl _) (.cells #[.string (ba l[i].1), .slice q.1 l[i].2.length q.2] 41)
        have hX := Box2.new wr (.string (ba l[i].1)) (.slice q.1 l[i].2.length q.2)
        have hs1 : (wr.alloc (.cells #[.string (ba l[i].1), .slice q.1 l[i].2.length q.2] 41)).heap.size = wr.heap.size + 1 := by simp
        obtain ⟨w1, hw1⟩ : ∃ w1, wr.alloc (.cells #[.string (ba l[i].1), .slice q.1 l[i].2.length q.2] 41) = w1 := ⟨_, rfl⟩
        rw [hw1] at hb1 hX hs1
        have hg1 := grown_under hK.out hb1
        have hC1 := HC.out.grown hg1
        have hS1 := hS.out.below hb1
        have cC := ucheck_any l[i] q w1 ((hri.kept (fun k hk => hb1.block k (Nat.lt_trans hk hMwr))).mono (fun k hk => by have := hb1.size; omega)) (hENV.out w1 hg1)
        have hcode : currM l[i] = 0 → l[i].1.length ≤ 16 := fun h => S3.validC_len (currM_code h)
        unfold Says currV at cC
        obtain ⟨⟨code, ts⟩, hr⟩ : ∃ r, l[i] = r := ⟨_, rfl⟩
        rw [hr] at hst y0 y1 cC hadd hcode hX hw1
        dsimp only at hst y0 y1 cC hadd hX hw1
        obtain ⟨E, hE2⟩ : ∃ E, currM (code, ts) = E := ⟨_, rfl⟩
        rw [hE2] at cC hst hcode
        dsimp only at hcode
        obtain ⟨X1, hX1⟩ : ∃ X, ba code = X := ⟨_, rfl⟩
        obtain ⟨T1, hT1⟩ : ∃ F, ts.length = F := ⟨_, rfl⟩
        rw [hX1] at y0 cC hX hw1
        rw [hT1] at y1 cC hX hw1
        have hX1l : lst X1 = code := by rw [← hX1]; rfl
        have HXL := hid hX1l
        have HST := hid hst
        have HADD := hid hadd
        have HCODE := hid hcode
        have HCL := hid hcl
        have HW1 := hid hw1
        have HX := hid hX
        have HC1 := hid hC1
        have HG1 := hid hg1
        have HS1 := hid hS1
        have HZ1 := hid hs1
        have CC := hid cC
        clear hr hE2 hX1 hT1 hX1l hst hadd hcode hcl hw1 hX hC1 hg1 hS1 hs1 cC hri hfb hE hK hS hb1 hCr hMwr
        by_cases hE0 : E = 0
        · subst hE0
          have hst := HST.out
          rw [if_neg (by simp)] at hst
          have hcl16 := HCODE.out rfl
          by_cases hm : code ∈ codesU (l.take i)
          · rw [if_pos hm] at hst
            have HRR := hid hst
            clear hst
            go_wp2_with fail
            rw [HW1.out]
            refine CC.out.mono ?_
            rintro e w2 ⟨rfl, hb2⟩
            have hX2 := HX.out.next hb2
            have hS2 := HS1.out.below hb2
            have hg2 := grown_under HG1.out hb2
            have hC2 := HC.out.grown hg2
            obtain ⟨z0, z1⟩ := hX2.cells
            have cA := dist_any KB AB MB M (codesU (l.take i)) X1 q.1 T1 q.2 (by rw [HCL.out]; omega) (by rw [Lib.size_eq]; show (lst X1).length ≤ maxLen; rw [HXL.out]; unfold maxLen; omega) w2 hC2.d hS2
            unfold AddOutK at cA
            rw [HXL.out, addK_dup hm] at cA
            dsimp only at cA
            have CA := hid cA
            have HG2 := hid hg2
            clear cA hC2 hS2 hX2 hb2 hg2 hm
            go_wp2_with fail
            refine CA.out.mono ?_
            rintro e w3 ⟨rfl, hS3, hg3⟩
            have HG3 := hid (HG2.out.andThen hg3 (fun j hj => .inr hj))
            clear hg3 hS3
            go_wp2
            go_ret
            rw [HRR.out]
            exact ⟨rfl, HG3.out⟩
          · rw [if_neg hm] at hst
            have HRR := hid hst
            clear hst
            go_wp2_with fail
            rw [HW1.out]
            refine CC.out.mono ?_
            rintro e w2 ⟨rfl, hb2⟩
            have hX2 := HX.out.next hb2
            have hS2 := HS1.out.below hb2
            have hg2 := grown_under HG1.out hb2
            have hC2 := HC.out.grown hg2
            obtain ⟨z0, z1⟩ := hX2.cells
            have cA := dist_any KB AB MB M (codesU (l.take i)) X1 q.1 T1 q.2 (by rw [HCL.out]; omega) (by rw [Lib.size_eq]; show (lst X1).length ≤ maxLen; rw [HXL.out]; unfold maxLen; omega) w2 hC2.d hS2
            unfold AddOutK at cA
            rw [HXL.out, addK_ok hm (by rw [HCL.out]; omega)] at cA
            dsimp only at cA
            rw [← HADD.out] at cA
            have CA := hid cA
            have HG2 := hid hg2
            clear cA hC2 hS2 hX2 hb2 hg2 hm
            go_wp2_with fail
            refine CA.out.mono ?_
            rintro e w3 ⟨rfl, hS3, hg3⟩
            have HG3 := hid (HG2.out.andThen hg3 (fun j hj => .inr hj))
            have HS3 := hid hS3
            clear hg3 hS3
            go_wp2
            go_roundw
            case rel => exact ⟨i + 1, by go_num, by omega, hid HRR.out.symm, hid HS3.out, hid HG3.out⟩
            case measure => simp [RowKit.intOf]; omega
        · have hst := HST.out
          rw [if_pos hE0] at hst
          have HRR := hid hst
          have hE0' : (E != 0) = true := by simpa using hE0
          have hE0'' : (E == 0) = false := by simpa using hE0
          clear hst
          go_wp2_with fail
          rw [HW1.out]
          refine CC.out.mono ?_
          rintro e w2 ⟨rfl, hb2⟩
          have HG2 := hid (grown_under HG1.out hb2)
          clear hb2
          go_wp2
          go_ret
          rw [HRR.out]
          exact ⟨rfl, HG2.out⟩
      · have hltz : ¬ (i : Int) < (l.length : Int) := by omega
        have hn : Hid (R = 0) := hid (by rw [← hE.out, List.drop_of_length_le (by omega)]; rfl)
        go_wp2
        go_ret
        rw [hn.out]
        exact ⟨rfl, hK.out⟩


set_option maxHeartbeats 16000000 in
set_option maxRecDepth 100000 in
theorem uvalid_any (A : Option Addr) (l : List CurrD) (c : Nat) (w : World) (h : CurrsIn w (fun k => k < w.heap.size) A l) (hE : S3.Env w) :
    Calls Tryz.prog 15 #[.slice A l.length c] w (Says (.int .i64 (validU l)) w) := by
  unfold Says
  have hR : validU l = if 16 < l.length then 2 else goU [] l := rfl
  obtain ⟨R, hR'⟩ : ∃ R, validU l = R := ⟨_, rfl⟩
  rw [hR']
  rw [hR'] at hR
  have HR := hid hR
  have HH := hid h
  have HE := hid hE
  clear hR hR' h hE
  go_enter Tryz.func15, Tryz.ntmps15
  go_wp2_with fail
  refine (distinct_any w).mono ?_
  rintro e w4 ⟨KB, AB, MB, M, rfl, hD, hM, hM4, k1, k2, k3, hb4⟩
  have hc := chk_any A l c KB AB MB M w4 ((HH.out.kept (fun k hk => hb4.block k hk)).mono (fun k hk => by omega)) hM (fun W hW => HE.out.below (hb4.grown hW hb4.size (fun k e => by injection e with e; rw [← e]; exact hM4))) ⟨hD, k1, k2, k3⟩
  rw [← HR.out] at hc
  have HC := hid hc
  have HB4 := hid hb4
  have HM4 := hid hM4
  clear hc hD hM hM4 k1 k2 k3 hb4
  go_wp2_with fail
  refine HC.out.mono ?_
  rintro e w5 ⟨rfl, hg5⟩
  have HB5 := hid (HB4.out.grown hg5 HB4.out.size (fun k e => by injection e with e; rw [← e]; exact HM4.out))
  clear hg5
  go_wp2
  go_ret
  exact ⟨rfl, HB5.out⟩
end Go.Proofs.YtpaejkhaiifgdaaGreatDoor.S11

