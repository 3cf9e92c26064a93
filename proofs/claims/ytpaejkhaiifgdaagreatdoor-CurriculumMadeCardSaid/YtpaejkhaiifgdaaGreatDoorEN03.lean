/-
  The reference's follows: whether a code is the next one of another. Conditions: both are at most 16 bytes long, the width is at most 16.
  The program's Join: its contract (joinM). Conditions: the library's variables hold what its text lays; the list of strings lies in memory.
  The runs of the reference's Join, one after another: mathematics.
  The reference's List, what a part gives: plain mathematics. No program, no conditions.
-/
import Derived.Test.YtpaejkhaiifgdaaGreatDoorGN01
import Derived.Test.YtpaejkhaiifgdaaGreatDoorGN02
import Derived.Test.YtpaejkhaiifgdaaGreatDoorGN03
import Derived.Test.YtpaejkhaiifgdaaGreatDoorGN04
import Derived.Test.YtpaejkhaiifgdaaGreatDoorGN05
import Derived.Test.YtpaejkhaiifgdaaGreatDoorGN06
import Derived.Test.YtpaejkhaiifgdaaGreatDoorGN07
import Derived.Test.YtpaejkhaiifgdaaGreatDoorGN08
import Derived.Test.YtpaejkhaiifgdaaGreatDoorGN09
import Derived.Test.YtpaejkhaiifgdaaGreatDoorGN10
import Derived.Test.YtpaejkhaiifgdaaGreatDoorGN11
import Derived.Test.YtpaejkhaiifgdaaGreatDoorGN12
import Derived.Test.YtpaejkhaiifgdaaGreatDoorGN13
import Derived.Test.YtpaejkhaiifgdaaGreatDoorGN14
import Derived.Test.YtpaejkhaiifgdaaGreatDoorGN15
import Derived.Test.YtpaejkhaiifgdaaGreatDoorGN16
import Derived.Test.YtpaejkhaiifgdaaGreatDoorGN17
import Derived.Test.YtpaejkhaiifgdaaGreatDoorGN18
import Derived.Test.YtpaejkhaiifgdaaGreatDoorEN01
import Derived.Test.YtpaejkhaiifgdaaGreatDoorEN02
import Derived.RangeFuncNested
import Derived.RangeFuncBound
import Derived.RangeFuncCalls
import Derived.RangeFuncLeaves
import Derived.Shelf.Abstract
import Derived.Shelf.RegionOpen
import Derived.OwnWalkIn
import Derived.Lib.Bytealg
import Derived.Lib.ItoaNum
import Derived.Lib.Atoi
import Derived.Lib.SlTrimSet
import Derived.Test.YtpaejkhaiifgdaaGreatDoorProg
import Derived.WalkKit
import Derived.WalkSpells
import Derived.WalkLawsBesides
import Derived.Lib.Hide
import Derived.Deep.QuietTactic
import Derived.BigQuiet
import Derived.Laws.Rows
import Derived.OwnWalk
import Derived.Lib.BufferWrite
import Derived.Lib.UnsafeStr
import Derived.Laws.IdiomStrings
import Derived.Laws.BytesArg
import Derived.Laws.BytesString
import Derived.Shelf.Strings.Builder1
import Derived.Shelf.Strings.Builder2
import Derived.Shelf.Strings.OnBuilder
import Derived.Shelf.Strings.Trim
import Derived.Shelf.Small.Utf8
import Derived.Shelf.Small.Strs
import Derived.Shelf.Strings.BuilderF
import Derived.Shelf.Strings.BuilderK
import Derived.Shelf.Strings.Builder2Cap
import Derived.Shelf.Strconv.Atoi
import Derived.Shelf.Strconv.Itoa0
import Derived.Shelf.Strconv.Itoa1
import Derived.Shelf.LaysM
import Derived.Shelf.Strconv.Itoa2
import Derived.Shelf.Strconv.Itoa3
import Derived.Shelf.Strconv.AtoiErrFast
import Derived.Shelf.Strconv.ParseIntEmpty
import Derived.Shelf.Strconv.AtoiFail
import Derived.Shelf.Strconv.Clone
import Derived.Shelf.Strconv.SyntaxError
import Derived.Shelf.LaysC
import Derived.Shelf.Strconv.ToError
import Derived.Shelf.Strconv.AtoiErr
import Derived.Shelf.Strings.Search1
import Derived.Shelf.Strings.Search2
import Derived.Shelf.Strings.Search3
import Derived.Shelf.Strings.Cut
import Derived.Shelf.Strings.Shaped
import Derived.Shelf.Strings.Prefix
import Derived.Shelf.Strings.Runes
import Derived.Shelf.Strings.AsciiSet
import Derived.Shelf.Bits.Mul64
import Derived.Shelf.Strings.Repeat
import Derived.Shelf.Unicode.DecodeSlow
import Derived.Shelf.Strings.BuilderCap
import Derived.Shelf.Slices.Turned
import Derived.Shelf.Strings.SlTrimAscii
import Derived.Lib.AtoiErrMem
import Derived.Handy
import Derived.Laws.ResultCell
import Derived.RegionTactic
import Derived.Lib.Repeat
import Derived.Deep.RegionHeld3
import Derived.Laws.OwnMore
import Derived.Lib.SlicesS
import Derived.Lib.IndexLaws
import Derived.TacticsInMore
import Derived.LoopNIn
import Derived.LoopIn
import Derived.RangeFuncBox
import Derived.Deep.DeepCutAuto
import Derived.Lib.Join
import Derived.Laws.Concat
set_option linter.unusedVariables false
namespace Go.Proofs.YtpaejkhaiifgdaaGreatDoor.S3
open Go Go.Proofs Go.RowKit Go.Lib

/-- Whether a code is the next one of another, in a width. -/
def followsB (c p : Str) (k : Nat) : Bool := hasL p && decide (c = preS p ++ wrS (numL p + 1) k)

set_option maxHeartbeats 4000000 in
set_option maxRecDepth 100000 in
theorem follows_any (c p : ByteArray) (k : Nat) (hc : c.size ≤ 16) (hp : p.size ≤ 16) (hk : k ≤ 16) (w : World) :
    Calls Tryz.prog 53 #[.string c, .string p, .int .i64 (k : Int)] w fun e w' => e = .returned (.bool (followsB (lst c) (lst p) k)) ∧ Below w.heap.size w w' := by
  have cT := tail_any p hp
  obtain ⟨h16l, h16p⟩ := last_len (lst p) (by rw [← Lib.size_eq]; exact hp)
  have hdg := last_dgs (lst p)
  have hnum : numL (lst p) < 10000000000000001 := by
    have h1 := numN_lt _ hdg
    have h2 : 10 ^ (lastS (lst p)).length ≤ 10 ^ 16 := Nat.pow_le_pow_right (by omega) h16l
    have h3 : 10 ^ 16 = 10000000000000000 := by decide
    unfold numL
    omega
  have cN := number_any (ba (lastS (lst p))) h16l hdg
  rw [show numN (lst (ba (lastS (lst p)))) = numL (lst p) from rfl] at cN
  obtain ⟨ANS, hANS⟩ : ∃ ANS, followsB (lst c) (lst p) k = ANS := ⟨_, rfl⟩
  rw [hANS]
  unfold followsB hasL at hANS
  have hsz : (ba (lastS (lst p))).size = (lastS (lst p)).length := rfl
  have hfz : (ba (preS (lst p))).size = (preS (lst p)).length := rfl
  obtain ⟨N, hN⟩ : ∃ N, numL (lst p) = N := ⟨_, rfl⟩
  rw [hN] at cN hnum hANS
  have hW := fun w => written_any (N + 1) k (by omega) hk w
  rw [show ((N + 1 : Nat) : Int) = (N : Int) + 1 by omega] at hW
  have hwl : (ba (wrS (N + 1) k)).size ≤ 20 := by
    have h1 := dec_len (N + 1) 17 (by omega) (by omega)
    show (wrS (N + 1) k).length ≤ 20
    rw [wr_len]
    omega
  by_cases h0 : 0 < (ba (lastS (lst p))).size
  · obtain ⟨x1, x2, x3, x4⟩ := str_no h0
    have hne : (lastS (lst p)).isEmpty = false := by
      cases h : lastS (lst p) with
      | nil => rw [h] at h0; exact absurd h0 (by decide)
      | cons a b => rfl
    rw [hne] at hANS
    generalize ba (lastS (lst p)) = LA at *
    have hS : ba (preS (lst p)) ++ ba (wrS (N + 1) k) = ba (preS (lst p) ++ wrS (N + 1) k) := by apply ByteArray.ext; simp [ba]
    have add1 : ∀ w, (Op.stringOp .add (ba (preS (lst p))) (ba (wrS (N + 1) k))).run Tryz.prog w = .ok (.string (ba (preS (lst p) ++ wrS (N + 1) k))) w := fun w => by
      rw [run_string_add_sum (w := w) _ _ (by omega), hS]
    have hw1 : IntKind.i64.wrap ((N : Int) + 1) = (N : Int) + 1 := IntWalk.i64_in _ (by omega)
    obtain ⟨S, hSS⟩ : ∃ S, ba (preS (lst p) ++ wrS (N + 1) k) = S := ⟨_, rfl⟩
    have hA2 : Hid (lst c = lst S → ANS = true) := hid (fun h => by
      rw [← hANS]
      rw [← hSS] at h
      simp
      exact h)
    have hA3 : Hid (¬ lst c = lst S → ANS = false) := hid (fun h => by
      rw [← hANS]
      rw [← hSS] at h
      simp
      exact h)
    rw [hSS] at add1
    generalize ba (preS (lst p)) = FR at *
    generalize ba (wrS (N + 1) k) = WR at *
    have CT := hid cT
    have CN := hid cN
    have CW := hid hW
    clear cT cN hW hS hSS hANS hdg h16l h16p hN hne hsz hfz
    rcases str_eq (a := c) (b := S) with ⟨he, t1, t2⟩ | ⟨he, t1, t2⟩
    · have hr := hA2.out he
      subst hr
      clear he hA2 hA3
      go_enter Tryz.func53, Tryz.ntmps53
      go_wp2_with fail
      refine (CT.out _).mono ?_
      rintro e w1 ⟨rfl, q, rfl⟩
      have HB1 : Hid (Below w.heap.size w (w.drewN q)) := hid (below_drewN (Below.refl _ _) q)
      go_wp2_with fail
      refine (CN.out _).mono ?_
      rintro e w2 ⟨rfl, rfl⟩
      go_wp2_with fail
      refine (CW.out _).mono ?_
      rintro e w3 ⟨rfl, hb3⟩
      have HB3 := hid (HB1.out.trans (hb3.mono HB1.out.size))
      clear hb3
      go_wp2
      go_ret
      exact ⟨rfl, HB3.out⟩
    · have hr := hA3.out he
      subst hr
      clear he hA2 hA3
      go_enter Tryz.func53, Tryz.ntmps53
      go_wp2_with fail
      refine (CT.out _).mono ?_
      rintro e w1 ⟨rfl, q, rfl⟩
      have HB1 : Hid (Below w.heap.size w (w.drewN q)) := hid (below_drewN (Below.refl _ _) q)
      go_wp2_with fail
      refine (CN.out _).mono ?_
      rintro e w2 ⟨rfl, rfl⟩
      go_wp2_with fail
      refine (CW.out _).mono ?_
      rintro e w3 ⟨rfl, hb3⟩
      have HB3 := hid (HB1.out.trans (hb3.mono HB1.out.size))
      clear hb3
      go_wp2
      go_ret
      exact ⟨rfl, HB3.out⟩
  · obtain ⟨x1, x2, x3, x4⟩ := str_yes h0
    have hne : (lastS (lst p)).isEmpty = true := by
      cases h : lastS (lst p) with
      | nil => rfl
      | cons a b => rw [h] at h0; exact absurd (Nat.succ_pos _) h0
    have hr : ANS = false := by rw [← hANS, hne]; rfl
    subst hr
    generalize ba (lastS (lst p)) = LA at *
    generalize ba (preS (lst p)) = FR at *
    have CT := hid cT
    clear cT cN hW hANS hdg h16l h16p hN hne hsz hfz
    go_enter Tryz.func53, Tryz.ntmps53
    go_wp2_with fail
    refine (CT.out _).mono ?_
    rintro e w1 ⟨rfl, q, rfl⟩
    have HB1 : Hid (Below w.heap.size w (w.drewN q)) := hid (below_drewN (Below.refl _ _) q)
    go_wp2
    go_ret
    exact ⟨rfl, HB1.out⟩
end Go.Proofs.YtpaejkhaiifgdaaGreatDoor.S3

set_option linter.unusedVariables false
namespace Go.Proofs.YtpaejkhaiifgdaaGreatDoor.S3
open Go Go.Proofs Go.RowKit Go.Lib

theorem joinP_fuel : ∀ (n : Nat) (l : List Str) (k : Nat), l.length ≤ n → l.length ≤ k → joinP k l = joinP n l
  | 0, l, k, h, _ => by
    obtain rfl : l = [] := List.eq_nil_of_length_eq_zero (by omega)
    cases k <;> rfl
  | n + 1, [], k, _, _ => by cases k <;> rfl
  | n + 1, f :: r, 0, _, h => by simp at h
  | n + 1, f :: r, k + 1, h1, h2 => by
    simp only [List.length_cons] at h1 h2
    have hp := ahead_pos f r
    have ih1 := joinP_fuel n ((f :: r).drop (aheadM (f :: r))) k (by simp; omega) (by simp; omega)
    have ih2 := joinP_fuel n r k (by omega) (by omega)
    simp only [joinP]
    rw [ih1, ih2]
/-- The parts of a list's text. -/
def partsL (l : List Str) : List Str := joinP l.length l
theorem partsL_nil : partsL [] = [] := rfl
theorem partsL_range (f : Str) (r : List Str) (h : 3 ≤ aheadM (f :: r)) : partsL (f :: r) = rangeT f (aheadM (f :: r)) :: partsL ((f :: r).drop (aheadM (f :: r))) := by
  unfold partsL
  show joinP (r.length + 1) (f :: r) = _
  simp only [joinP]
  rw [if_pos h]
  congr 1
  have hp := ahead_pos f r
  exact joinP_fuel _ _ _ (Nat.le_refl _) (by simp; omega)
theorem partsL_one (f : Str) (r : List Str) (h : ¬ 3 ≤ aheadM (f :: r)) : partsL (f :: r) = f :: partsL r := by
  unfold partsL
  show joinP (r.length + 1) (f :: r) = _
  simp only [joinP]
  rw [if_neg h]
theorem partsL_len : ∀ (n : Nat) (l : List Str), l.length ≤ n → (partsL l).length ≤ l.length
  | 0, l, h => by
    obtain rfl : l = [] := List.eq_nil_of_length_eq_zero (by omega)
    simp [partsL_nil]
  | n + 1, [], _ => by simp [partsL_nil]
  | n + 1, f :: r, h => by
    simp only [List.length_cons] at h
    have hp := ahead_pos f r
    by_cases h3 : 3 ≤ aheadM (f :: r)
    · rw [partsL_range f r h3]
      have := partsL_len n ((f :: r).drop (aheadM (f :: r))) (by simp; omega)
      simp at this ⊢
      omega
    · rw [partsL_one f r h3]
      have := partsL_len n r (by omega)
      simp
      omega
theorem semi_join : ∀ l : List Str, Lib.join l [59] = semi l
  | [] => rfl
  | [p] => by rw [Lib.join_one]; rfl
  | p :: q :: r => by
    have ih := semi_join (q :: r)
    rw [Lib.join_cons] at ih ⊢
    show p ++ Lib.joinTail [59] (q :: r) = p ++ 59 :: semi (q :: r)
    rw [← ih]
    simp [Lib.joinTail]
theorem semi_len : ∀ (l : List Str), (∀ p ∈ l, p.length ≤ 40) → (semi l).length ≤ 41 * l.length
  | [], _ => by simp [semi]
  | [p], h => by have := h p (.head _); simp [semi]; omega
  | p :: q :: r, h => by
    have ih := semi_len (q :: r) (fun x hx => h x (.tail _ hx))
    have := h p (.head _)
    show (p ++ 59 :: semi (q :: r)).length ≤ _
    simp at ih ⊢
    omega
theorem parts_short : ∀ (n : Nat) (l : List Str), l.length ≤ n → (∀ c ∈ l, validC c = true) → ∀ p ∈ partsL l, p.length ≤ 40
  | 0, l, h, _, p, hp => by
    obtain rfl : l = [] := List.eq_nil_of_length_eq_zero (by omega)
    simp [partsL_nil] at hp
  | n + 1, [], _, _, p, hp => by simp [partsL_nil] at hp
  | n + 1, f :: r, h, hv, p, hp => by
    simp only [List.length_cons] at h
    have hpos := ahead_pos f r
    by_cases h3 : 3 ≤ aheadM (f :: r)
    · rw [partsL_range f r h3] at hp
      rcases List.mem_cons.1 hp with rfl | hp
      · have hnv : validC (nthS f (aheadM (f :: r) - 1)) = true := by
          have := ahead_nth f r (aheadM (f :: r) - 2) (by omega)
          rw [show aheadM (f :: r) - 2 + 1 = aheadM (f :: r) - 1 by omega] at this
          exact hv _ (List.mem_cons_of_mem _ (List.mem_of_getElem? this))
        have h1 := validC_len (hv f (.head _))
        have h2 := validC_len hnv
        unfold rangeT
        simp
        omega
      · exact parts_short n _ (by simp; omega) (fun c hc => hv c (List.mem_of_mem_drop hc)) p hp
    · rw [partsL_one f r h3] at hp
      rcases List.mem_cons.1 hp with rfl | hp
      · have := validC_len (hv p (.head _)); omega
      · exact parts_short n r (by omega) (fun c hc => hv c (.tail _ hc)) p hp

def sliceLen : Value → Nat | .slice _ n _ => n | _ => 0
/-- What Join hands back. -/
def JoinOut (l : List Str) (w : World) (e : Ending) (w' : World) : Prop :=
  e = .returned (.tuple #[.string (ba (if checkM l = 0 then joinM l else [])), .int .i64 (checkM l)]) ∧ Below w.heap.size w w'
theorem ba_app (a b : Str) : ba a ++ ba b = ba (a ++ b) := by
  apply ByteArray.ext
  simp [ba]
theorem ba_size (a : Str) : (ba a).size = a.length := by
  show a.toArray.size = _
  simp
theorem strs_rest {w : World} {P : Nat → Prop} {b off : Nat} {l : List Str} (h : StrsIn w P (some ⟨b, off, none⟩) l) (n c : Nat) (hlc : l.length ≤ c) : StrsIn w P (if c = n then some ⟨b, off, none⟩ else some ⟨b, off + n, none⟩) (l.drop n) := by
  have := h.rest n c hlc
  rwa [Option.map_some, Addr.add_lit] at this

set_option maxHeartbeats 8000000 in
set_option maxRecDepth 100000 in
theorem cjoin_any (A : Option Addr) (l : List Str) (c : Nat) (w : World) (h : StrsIn w (fun b => b < w.heap.size) A l) (hlc : l.length ≤ c) (hc : c ≤ 9223372036854775807) (hE : Env w) :
    Calls Tryz.prog 51 #[.slice A l.length c] w (JoinOut l w) := by
  have cC := hid (check_any A l c _ w h hlc hc)
  by_cases hk : checkM l = 0
  · obtain ⟨h64, hv⟩ := check_valid hk
    have HV := hid hv
    unfold JoinOut
    rw [if_pos hk, hk]
    rw [hk] at cC
    have H : Hid (∀ w' : World, Below w.heap.size w w' → StrsIn w' (fun b => b < w.heap.size) A l) := hid (fun w' hb => h.kept (fun b hlt => hb.block b hlt))
    have HE := hid hE
    have HS : Hid (joinM l = semi (partsL l)) := hid rfl
    have HP4 := hid (parts_short _ l (Nat.le_refl _) hv)
    have HPL := hid (partsL_len _ l (Nat.le_refl _))
    rw [HS.out]
    obtain ⟨i9, hi9, hz9, hsi9, hby9⟩ := info_parts infoStr
    clear h hv hE hk
    go_enter Tryz.func51, Tryz.ntmps51
    go_wp2_with fail
    refine cC.out.mono ?_
    rintro e w1 ⟨rfl, rfl⟩
    go_wp2_with fail
    go_loopw [0, 5] (fun sv v wr => ∃ (n c' : Nat) (A' : Option Addr) (ps : List Str), sv = .slice A' (l.drop n).length c' ∧ Hid (StrsIn wr (fun b => b < w.heap.size) A' (l.drop n)) ∧ (l.drop n).length ≤ c' ∧ c' ≤ 9223372036854775807 ∧ n ≤ l.length ∧ Hid (partsL l = ps ++ partsL (l.drop n)) ∧ StrRow wr w.heap.size v ps ∧ Hid (Below w.heap.size w wr)) (fun sv _ _ => sliceLen sv)
    case atStart => exact ⟨0, c, A, [], rfl, hid (H.out w (Below.refl _ _)), hlc, hc, by omega, hid rfl, World.ownsRow_nil _ _ _ _, hid (Below.refl _ _)⟩
    case round =>
      obtain ⟨n, c', A', ps, rfl, hIn, hlc', hc', hn, hps, hrow, hB⟩ := hrel
      obtain ⟨Ar, cr, rfl⟩ := row_slice hrow
      have HRow := hid hrow
      have HE1 := hid (HE.out.below hB.out)
      clear hrow
      have hpl : ps.length + (partsL (l.drop n)).length ≤ 64 := by
        have h1 := HPL.out
        have h2 := congrArg List.length hps.out
        rw [List.length_append] at h2
        omega
      cases hr : l.drop n with
      | nil =>
        rw [hr] at hps hIn hlc' hpl
        have HPS : Hid (partsL l = ps) := hid (by rw [hps.out, partsL_nil, List.append_nil])
        clear hr hps
        obtain ⟨A5, c5, eA, hl5, hc5, hI5⟩ := HRow.out.strsIn
        have hA5 : Hid (Ar = A5 ∧ cr = c5) := hid (by injection eA with e1 _ e3; exact ⟨e1, e3⟩)
        obtain ⟨rfl, rfl⟩ := hA5.out
        have cJ : Hid (Calls Tryz.prog 69 #[.slice Ar ps.length cr, .string ⟨#[59]⟩] wr fun e w' => e = .returned (.string (ba (semi ps))) ∧ Below wr.heap.size wr w') := hid (by
          rcases hI5 with h | ⟨b, off, rfl, hb, hcell⟩
          · subst h
            exact (Tryz.strings_Join_none Ar cr ⟨#[59]⟩ wr).mono fun e w' ⟨h1, h2⟩ => ⟨h1, h2 ▸ Below.refl _ _⟩
          · have hj := Tryz.strings_Join b off cr (ps.map ba) ⟨#[59]⟩ wr (fun j x hx => by
              rw [List.getElem?_map] at hx
              obtain ⟨y, hy, rfl⟩ := Option.map_eq_some_iff.1 hx
              exact hcell j y hy) hb.2 (by simp; omega) (by simpa using hl5) (by
              have e : (ps.map ba).map (·.data.toList) = ps := by simp [Function.comp_def, ba]
              rw [e, show (⟨#[59]⟩ : ByteArray).data.toList = [59] from rfl, semi_join]
              have := semi_len ps (fun p hp => HP4.out p (by rw [HPS.out]; exact hp))
              omega)
            have e : (ps.map ba).map (·.data.toList) = ps := by simp [Function.comp_def, ba]
            rw [e, show (⟨#[59]⟩ : ByteArray).data.toList = [59] from rfl, semi_join, List.length_map] at hj
            exact hj)
        clear eA hA5 hI5 hl5 hc5 hlc' hIn
        go_wp2_with fail
        refine cJ.out.mono ?_
        rintro e w2 ⟨rfl, hb2⟩
        have HB2 := hid (hB.out.trans (hb2.mono hB.out.size))
        clear hb2
        go_wp2_with fail
        go_ret2
        exact ⟨by rw [HPS.out]; rfl, HB2.out⟩
      | cons f r =>
        rw [hr] at hps hIn hlc' hpl
        have hdl : l.length - n = r.length + 1 := by
          have := congrArg List.length hr
          simpa using this
        have hvf : ∀ x ∈ f :: r, validC x = true := fun x hx => HV.out x (List.mem_of_mem_drop (by rw [hr]; exact hx))
        have hf16 := validC_len (hvf f (.head _))
        have hdd : ∀ j, (f :: r).drop j = l.drop (n + j) := fun j => by rw [← hr, List.drop_drop]
        have cA := hid (ahead_any A' f r c' (fun b => b < w.heap.size) wr hIn.out (fun b hb => Nat.lt_of_lt_of_le hb hB.out.size) (by omega) hf16 HE1.out)
        obtain ⟨b, off, rfl, hbl, hcell⟩ : ∃ b off, A' = some ⟨b, off, none⟩ ∧ b < w.heap.size ∧ ∀ (j : Nat) (s : Str), (f :: r)[j]? = some s → wr.cell? ⟨b, off + j, none⟩ = some (.string (ba s)) := by
          rcases hIn.out with h | h
          · cases h
          · exact h
        have hpos := ahead_pos f r
        have hR := partsL_range f r
        have hO := partsL_one f r
        have hnth := ahead_nth f r
        obtain ⟨run, hrun⟩ : ∃ run, aheadM (f :: r) = run := ⟨_, rfl⟩
        rw [hrun] at cA hpos hR hO hnth
        have hc0 := hcell 0 f rfl
        rw [Nat.add_zero] at hc0
        have HCELL := hid hcell
        have HR := hid hR
        have HO := hid hO
        have HNTH := hid hnth
        have HDD := hid hdd
        have HVF := hid hvf
        clear hcell hR hO hnth hdd hrun hr hvf
        go_wp2_with fail
        refine cA.out.mono ?_
        rintro e w2 ⟨rfl, hb2⟩
        have HB2 := hid (hB.out.trans (hb2.mono hB.out.size))
        have HIn2 : Hid (StrsIn w2 (fun b => b < w.heap.size) (some ⟨b, off, none⟩) (f :: r)) := hid (hIn.out.kept (fun b' hb' => hb2.block b' (Nat.lt_of_lt_of_le hb' hB.out.size)))
        have HRow2 : Hid (StrRow w2 w.heap.size _ ps) := hid (row_under HRow.out hb2)
        have HC2 : Hid (∀ (j : Nat) (s : Str), (f :: r)[j]? = some s → w2.cell? ⟨b, off + j, none⟩ = some (.string (ba s))) := hid (fun j s hj => (hb2.cell (p := ⟨b, off + j, none⟩) (Nat.lt_of_lt_of_le hbl hB.out.size)).trans (HCELL.out j s hj))
        clear hb2 cA HCELL HE1 HRow hIn hB
        by_cases h3 : 3 ≤ run
        · have hX : (f :: r)[run - 1]? = some (nthS f (run - 1)) := by
            have := HNTH.out (run - 2) (by omega)
            rw [show run - 2 + 1 = run - 1 by omega] at this
            rw [show run - 1 = run - 2 + 1 by omega, List.getElem?_cons_succ, this, show run - 2 + 1 = run - 1 by omega]
          have hXv := validC_len (HVF.out _ (List.mem_of_getElem? hX))
          have hcX := HC2.out _ _ hX
          have hc0' := HC2.out 0 f rfl
          rw [Nat.add_zero] at hc0'
          have HRT : Hid (rangeT f run = f ++ 46 :: 46 :: nthS f (run - 1)) := hid rfl
          obtain ⟨X, hXe⟩ : ∃ X, nthS f (run - 1) = X := ⟨_, rfl⟩
          rw [hXe] at hXv hcX HRT
          have add1 : ∀ w, (Op.stringOp .add (ba f) ⟨#[46, 46]⟩).run Tryz.prog w = .ok (.string (ba f ++ ⟨#[46, 46]⟩)) w := fun w => run_string_add_sum (w := w) _ _ (by rw [ba_size]; have : (⟨#[46, 46]⟩ : ByteArray).size = 2 := rfl; omega)
          have add2 : ∀ w, (Op.stringOp .add (ba f ++ ⟨#[46, 46]⟩) (ba X)).run Tryz.prog w = .ok (.string (ba f ++ ⟨#[46, 46]⟩ ++ ba X)) w := fun w => run_string_add_sum (w := w) _ _ (by rw [ByteArray.size_append, ba_size, ba_size]; have : (⟨#[46, 46]⟩ : ByteArray).size = 2 := rfl; omega)
          have hT : ba f ++ ⟨#[46, 46]⟩ ++ ba X = ba (rangeT f run) := by
            rw [HRT.out, show (⟨#[46, 46]⟩ : ByteArray) = ba [46, 46] from rfl, ba_app, ba_app]
            simp
          rw [hT] at add2
          obtain ⟨T, hTe⟩ : ∃ T, rangeT f run = T := ⟨_, rfl⟩
          rw [hTe] at add2
          have HT := hid hTe
          have h3z : (3 : Int) ≤ (run : Int) := by omega
          have q1 : IntKind.i64.wrap ((run : Int) - 1) = (run : Int) - 1 := IntWalk.i64_in _ (by omega)
          have q2 : (1 : Int) ≤ (run : Int) := by omega
          have q3 : ((run : Int) - 1).toNat = run - 1 := by omega
          have q4 : (run : Int) - 1 < (r.length : Int) + 1 := by omega
          clear hX hXe hT hTe
          go_wp2_with fail
          go_quiet (fail)
          have hd2 : Below w2.heap.size w2 (w2.drewN nq) := below_drewN (Below.refl _ _) nq
          have HB3 : Hid (Below w.heap.size w (w2.drewN nq)) := hid (below_drewN HB2.out nq)
          have HIn3 : Hid (StrsIn (w2.drewN nq) (fun b => b < w.heap.size) (some ⟨b, off, none⟩) (f :: r)) := hid (HIn2.out.kept (fun b' hb' => hd2.block b' (Nat.lt_of_lt_of_le hb' HB2.out.size)))
          have HRow3 : Hid (StrRow (w2.drewN nq) w.heap.size _ ps) := hid (row_under HRow2.out hd2)
          clear hd2 HB2 HIn2 HRow2 HC2 hc0' hcX add1 add2
          generalize w2.drewN nq = w3 at HB3 HIn3 HRow3 ⊢
          have HC3 : Hid (ps.length + 1 ≤ maxLen) := by unfold maxLen; exact hid (by omega)
          have HC4 : Hid ((ps.length + 1) * 16 ≤ 140737488355328) := hid (by omega)
          have HC5 : Hid (∀ o : Obj, w.heap.size ≤ (w3.alloc o).heap.size) := hid (fun o => by have := HB3.out.size; simp; omega)
          go_wp2_with (at_builtin; refine wpList_append_own _ rfl _ _ 39 rfl w.heap.size 9 i9 (.string ⟨#[]⟩) 1 16 Tryz.underlying39 hi9 hz9 hsi9 hby9 rfl (by decide) _ ps.length (strVals ps) rfl (World.ownsRow.alloc HRow3.out _) ⟨w3.heap.size, 0, none⟩ 1 1 [.string (ba T)] rfl rfl (one_new _ _ _) (one_str _) HC3.out HC4.out (HC5.out _) ?_)
          intro v' w4 hown' hgrow _
          have hg' := grownBy_of_alloc hgrow
          have hb24 : Below w.heap.size w3 w4 := (Below.refl _ w3).grown hg' HB3.out.size (fun k hk => (World.ownsRow.lt HRow3.out k hk).1)
          have HB4 := hid (HB3.out.trans hb24)
          have HIn4 : Hid (StrsIn w4 (fun b => b < w.heap.size) (if c' = run then some ⟨b, off, none⟩ else some ⟨b, off + run, none⟩) ((f :: r).drop run)) := hid (strs_rest (HIn3.out.kept (fun b' hb' => hb24.block b' hb')) run c' hlc')
          have HOwn := hid hown'
          clear hb24 hg' hgrow hown'
          go_wp2_with fail
          go_roundw
          case rel =>
            have hr1 : l.drop (n + run) = (f :: r).drop run := (HDD.out run).symm
            have hr2 : (l.drop (n + run)).length = r.length + 1 - run := by rw [hr1]; simp
            refine ⟨n + run, c' - run, _, ps ++ [T], by rw [hr2], hid (by rw [hr1]; exact HIn4.out), by rw [hr2]; simp at hlc'; omega, by omega, by omega, hid (by rw [hr1, hps.out, HR.out h3, HT.out]; simp), ?_, HB4⟩
            unfold StrRow
            rw [strVals_app, List.length_append]
            exact HOwn.out
          case measure => simp [sliceLen]; omega
        · have h3z : ¬ (3 : Int) ≤ (run : Int) := by omega
          have hc0' := HC2.out 0 f rfl
          rw [Nat.add_zero] at hc0'
          have HC3 : Hid (ps.length + 1 ≤ maxLen) := by unfold maxLen; exact hid (by omega)
          have HC4 : Hid ((ps.length + 1) * 16 ≤ 140737488355328) := hid (by omega)
          have HC5 : Hid (∀ o : Obj, w.heap.size ≤ (w2.alloc o).heap.size) := hid (fun o => by have := HB2.out.size; simp; omega)
          go_wp2_with (at_builtin; refine wpList_append_own _ rfl _ _ 39 rfl w.heap.size 9 i9 (.string ⟨#[]⟩) 1 16 Tryz.underlying39 hi9 hz9 hsi9 hby9 rfl (by decide) _ ps.length (strVals ps) rfl (World.ownsRow.alloc HRow2.out _) ⟨w2.heap.size, 0, none⟩ 1 1 [.string (ba f)] rfl rfl (one_new _ _ _) (one_str _) HC3.out HC4.out (HC5.out _) ?_)
          intro v' w4 hown' hgrow _
          have hg' := grownBy_of_alloc hgrow
          have hb24 : Below w.heap.size w2 w4 := (Below.refl _ w2).grown hg' HB2.out.size (fun k hk => (World.ownsRow.lt HRow2.out k hk).1)
          have HB4 := hid (HB2.out.trans hb24)
          have HIn4 : Hid (StrsIn w4 (fun b => b < w.heap.size) (if c' = 1 then some ⟨b, off, none⟩ else some ⟨b, off + 1, none⟩) ((f :: r).drop 1)) := hid (strs_rest (HIn2.out.kept (fun b' hb' => hb24.block b' hb')) 1 c' hlc')
          have HOwn := hid hown'
          clear hb24 hg' hgrow hown'
          go_wp2_with fail
          go_roundw
          case rel =>
            have hr1 : l.drop (n + 1) = r := (HDD.out 1).symm
            refine ⟨n + 1, c' - 1, _, ps ++ [f], by rw [hr1], hid (by rw [hr1]; exact HIn4.out), by rw [hr1]; simp at hlc'; omega, by omega, by omega, hid (by rw [hr1, hps.out, HO.out h3]; simp), ?_, HB4⟩
            unfold StrRow
            rw [strVals_app, List.length_append]
            exact HOwn.out
          case measure => simp [sliceLen]
  · unfold JoinOut
    rw [if_neg hk]
    have hkz : (checkM l == 0) = false := by simpa using hk
    have hkz' : (checkM l != 0) = true := by simpa using hk
    generalize checkM l = K at cC hkz hkz'
    clear h hE hk
    go_enter Tryz.func51, Tryz.ntmps51
    go_wp2_with fail
    refine cC.out.mono ?_
    rintro e w1 ⟨rfl, rfl⟩
    go_wp2_with fail
    go_ret2
    exact ⟨rfl, Below.refl _ _⟩
end Go.Proofs.YtpaejkhaiifgdaaGreatDoor.S3

set_option linter.unusedVariables false
namespace Go.Proofs.YtpaejkhaiifgdaaGreatDoor.S3
open Go Go.Proofs Go.RowKit Go.Lib

theorem nth_zero (f : Str) (h : hasL f = true) : nthS f 0 = f := by
  unfold nthS numL
  rw [Nat.add_zero]
  have hne : (lastS f).length ≠ 0 := fun e => by
    have := List.eq_nil_of_length_eq_zero e
    unfold hasL at h
    rw [this] at h
    simp at h
  obtain ⟨k, hk⟩ : ∃ k, (lastS f).length = k + 1 := ⟨(lastS f).length - 1, by omega⟩
  rw [wr_self k _ hk (last_dgs f), pre_split]
theorem follows_nth (f c : Str) (d : Nat) : followsB c (nthS f d) (lastS f).length = decide (c = nthS f (d + 1)) := by
  unfold followsB
  rw [has_nth, pre_nth, num_nth]
  simp only [Bool.true_and]
  rfl
theorem follows_none (f c : Str) (k : Nat) (h : hasL f = false) : followsB c f k = false := by
  unfold followsB
  rw [h]
  rfl
/-- Between two rounds of the inner loop: the run begins with f, i of its codes are passed, the last of them is p, r is the rest. -/
structure RunAt (f : Str) (r0 : List Str) (i : Nat) (p : Str) (r : List Str) : Prop where
  one : 1 ≤ i
  run : aheadM (f :: r0) = if hasL f = true then aheadGo f i r else 1
  prev : hasL f = true → p = nthS f (i - 1)
  no : hasL f = false → i = 1 ∧ p = f
theorem RunAt.start (f : Str) (r : List Str) : RunAt f r 1 f r :=
  ⟨Nat.le_refl _, rfl, fun h => (nth_zero f h).symm, fun _ => ⟨rfl, rfl⟩⟩
theorem RunAt.on {f p c : Str} {r0 r : List Str} {i : Nat} (h : RunAt f r0 i p (c :: r)) (hf : followsB c p (lastS f).length = true) : RunAt f r0 (i + 1) c r := by
  cases hh : hasL f with
  | false =>
    obtain ⟨_, rfl⟩ := h.no hh
    rw [follows_none _ _ _ hh] at hf
    cases hf
  | true =>
    have h1 := h.one
    rw [h.prev hh, follows_nth, show i - 1 + 1 = i by omega] at hf
    have hc : c = nthS f i := by simpa using hf
    refine ⟨by omega, ?_, fun _ => by rw [Nat.add_sub_cancel]; exact hc, fun e => by rw [hh] at e; cases e⟩
    rw [h.run, if_pos hh, if_pos hh]
    exact if_pos hc
theorem RunAt.off {f p c : Str} {r0 r : List Str} {i : Nat} (h : RunAt f r0 i p (c :: r)) (hf : followsB c p (lastS f).length = false) : aheadM (f :: r0) = i := by
  cases hh : hasL f with
  | false =>
    rw [h.run, if_neg (by rw [hh]; simp)]
    exact (h.no hh).1.symm
  | true =>
    have h1 := h.one
    rw [h.prev hh, follows_nth, show i - 1 + 1 = i by omega] at hf
    have hc : ¬ c = nthS f i := by simpa using hf
    rw [h.run, if_pos hh]
    exact if_neg hc
theorem RunAt.end_ {f p : Str} {r0 : List Str} {i : Nat} (h : RunAt f r0 i p []) : aheadM (f :: r0) = i := by
  cases hh : hasL f with
  | false =>
    rw [h.run, if_neg (by rw [hh]; simp)]
    exact (h.no hh).1.symm
  | true =>
    rw [h.run, if_pos hh]
    rfl
theorem semi_snoc : ∀ (ps : List Str) (p : Str), semi (ps ++ [p]) = if ps = [] then p else semi ps ++ 59 :: p
  | [], p => rfl
  | [q], p => rfl
  | q :: x :: r, p => by
    have ih := semi_snoc (x :: r) p
    rw [if_neg (by simp)] at ih ⊢
    show q ++ 59 :: semi (x :: (r ++ [p])) = (q ++ 59 :: semi (x :: r)) ++ 59 :: p
    rw [show x :: (r ++ [p]) = x :: r ++ [p] from rfl, ih]
    simp
end Go.Proofs.YtpaejkhaiifgdaaGreatDoor.S3

set_option linter.unusedVariables false
namespace Go.Proofs.YtpaejkhaiifgdaaGreatDoor.S3
open Go Go.Proofs Go.RowKit Go.Lib

theorem expand_range (a : Str) (n : Nat) (h1 : 1 ≤ n) (h : hasL a = true) : expandL a n = (List.range n).map (nthS a) := by
  obtain ⟨m, rfl⟩ : ∃ m, n = m + 1 := ⟨n - 1, by omega⟩
  unfold expandL
  rw [List.range_succ_eq_map, List.map_cons, nth_zero a h, Nat.add_sub_cancel, List.map_map]
  rfl
theorem cutNone {p : Str} (h : isP p = false) : befP p = p ∧ aftP p = [] := by
  unfold isP befP aftP Lib.cut at *
  by_cases hc : 0 ≤ Lib.index p dots2
  · rw [if_pos hc] at h; simp at h
  · rw [if_neg hc]; exact ⟨rfl, rfl⟩
theorem contains_nil : Lib.contains [] dots2 = false := by decide
theorem part_form {p : Str} {m : Int} (h : p = [] ∨ 1 < cntD p) {n a : Int} (hd : DotsAt p n a) : partM p m = ([], 4) := by
  unfold partM
  rw [if_pos]
  rcases h with h | h
  · exact .inl h
  · obtain ⟨_, k, _, _, _, _, hc⟩ := hd.yes (by omega)
    right
    rw [hc]
    exact decide_eq_true h
theorem partOne {p : Str} {m : Int} (hne : p ≠ []) (h : cntD p = 0) {n a : Int} (hd : DotsAt p n a) : partM p m = if validC p = false then ([], 10) else if m < 1 then ([], 2) else ([p], 0) := by
  have hi := hd.no h
  obtain ⟨hb, ha⟩ := cutNone hi
  unfold partM nP
  rw [hi, hb, ha, contains_nil, if_neg (by rintro (h | h); exact hne h; simp at h)]
  by_cases hv : validC p = false
  · rw [if_pos (.inl hv), if_pos hv]
  · rw [if_neg (by rintro (h | h); exact hv h; simp at h), if_neg hv]
    simp [expandL]
theorem part_two {p : Str} {m : Int} (hne : p ≠ []) (h : cntD p = 1) {n a : Int} (hd : DotsAt p n a) (hm : m ≤ 64) : partM p m = if validC (befP p) = false ∨ validC (aftP p) = false then ([], 10) else if rangeN (befP p) (aftP p) = 0 then ([], 3) else if m < (rangeN (befP p) (aftP p) : Int) then ([], 2) else ((List.range (rangeN (befP p) (aftP p))).map (nthS (befP p)), 0) := by
  obtain ⟨hi, k, _, _, _, _, hc⟩ := hd.yes (by omega)
  rw [h] at hc
  unfold partM nP
  rw [hi, hc, if_neg (by rintro (h | h); exact hne h; simp at h)]
  by_cases hv : validC (befP p) = false ∨ validC (aftP p) = false
  · rw [if_pos hv, if_pos (by rcases hv with h | h; exact .inl h; exact .inr ⟨rfl, h⟩)]
  · rw [if_neg hv, if_neg (by rintro (h | h); exact hv (.inl h); exact hv (.inr h.2))]
    simp only [if_true]
    by_cases h0 : rangeN (befP p) (aftP p) = 0
    · rw [if_pos h0, if_pos h0]
    · rw [if_neg h0, if_neg h0]
      have hh : hasL (befP p) = true := by
        unfold rangeN at h0
        split at h0
        · rename_i h; exact h.1
        · exact absurd rfl h0
      rw [expand_range _ _ (by omega) hh]
theorem list_err {s : Str} {ps : List Str} {p : Str} {rest L : List Str} {e : Int} (hs : s ≠ []) (hsp : splitL s = ps ++ p :: rest) (hg : listGo ps [] = (L, 0)) (hp : partM p (64 - (L.length : Int)) = ([], e)) (he : e ≠ 0) : listM s = ([], e) := by
  have h1 : listGo (splitL s) [] = ([], e) := by
    rw [hsp, listGo_app _ _ _ (by rw [hg]), hg]
    simp [listGo, hp, he]
  unfold listM
  rw [if_neg hs, h1, if_pos he]
theorem list_step {ps : List Str} {p : Str} {L M : List Str} (hg : listGo ps [] = (L, 0)) (hp : partM p (64 - (L.length : Int)) = (M, 0)) : listGo (ps ++ [p]) [] = (L ++ M, 0) := by
  rw [listGo_app _ _ _ (by rw [hg]), hg]
  simp [listGo, hp]
theorem list_end_ {s : Str} {L : List Str} (hs : s ≠ []) (hg : listGo (splitL s) [] = (L, 0)) : listM s = if checkM L ≠ 0 then ([], checkM L) else (L, 0) := by
  unfold listM
  rw [if_neg hs, hg, if_neg (by simp)]
end Go.Proofs.YtpaejkhaiifgdaaGreatDoor.S3

