/-
  The made texts: Light, Roll, One, Text of package timetablemade. Conditions: the numbers lie in memory as a slice of ints.
  Curricula as data, and in memory: slices of structs that came in, or that the call made. No program beyond the types' facts.
  What List gives for a range of made codes (a letter and a number with a width). Mathematics alone. Conditions: as the lemmas state.
  What Join makes of a list of codes, and that List reads it again. Mathematics alone. Conditions: as the lemmas state.
  Curricula as data: what is asked of one and of a list; their records. No program.
  Curricula as they are made: nothing is wrong with them, and they are read as they were written. No program.
  Rows of strings that may be written to. Conditions: as the lemmas state.
  Rows of records that are changed in place and grow. No walk. Conditions: as stated.
  The records of curricula by the specification: Write, with what lets its rows be changed. Conditions: the curricula lie in memory.
-/
import Derived.Test.YtpaejkhaiifgdaaGreatDoorGN01
import Derived.Test.YtpaejkhaiifgdaaGreatDoorGN02
import Derived.Test.YtpaejkhaiifgdaaGreatDoorGN03
import Derived.Test.YtpaejkhaiifgdaaGreatDoorGN04
import Derived.Test.YtpaejkhaiifgdaaGreatDoorGN05
import Derived.Test.YtpaejkhaiifgdaaGreatDoorGN06
import Derived.Test.YtpaejkhaiifgdaaGreatDoorGN07
import Derived.Test.YtpaejkhaiifgdaaGreatDoorGN08
import Derived.Test.YtpaejkhaiifgdaaGreatDoorGN09
import Derived.Test.YtpaejkhaiifgdaaGreatDoorGN10
import Derived.Test.YtpaejkhaiifgdaaGreatDoorGN11
import Derived.Test.YtpaejkhaiifgdaaGreatDoorGN12
import Derived.Test.YtpaejkhaiifgdaaGreatDoorGN13
import Derived.Test.YtpaejkhaiifgdaaGreatDoorGN14
import Derived.Test.YtpaejkhaiifgdaaGreatDoorGN15
import Derived.Test.YtpaejkhaiifgdaaGreatDoorGN16
import Derived.Test.YtpaejkhaiifgdaaGreatDoorGN17
import Derived.Test.YtpaejkhaiifgdaaGreatDoorGN18
import Derived.Test.YtpaejkhaiifgdaaGreatDoorEN01
import Derived.Test.YtpaejkhaiifgdaaGreatDoorEN02
import Derived.Test.YtpaejkhaiifgdaaGreatDoorEN03
import Derived.Test.YtpaejkhaiifgdaaGreatDoorEN04
import Derived.Test.YtpaejkhaiifgdaaGreatDoorEN05
import Derived.Test.YtpaejkhaiifgdaaGreatDoorEN06
import Derived.Test.YtpaejkhaiifgdaaGreatDoorEN07
import Derived.Test.YtpaejkhaiifgdaaGreatDoorEN08
import Derived.Test.YtpaejkhaiifgdaaGreatDoorEN09
import Derived.Test.YtpaejkhaiifgdaaGreatDoorProg
import Derived.WalkKit
import Derived.WalkSpells
import Derived.WalkLawsBesides
import Derived.Lib.Hide
import Derived.Deep.QuietTactic
import Derived.BigQuiet
import Derived.Laws.Rows
import Derived.OwnWalk
import Derived.Lib.BufferWrite
import Derived.Lib.UnsafeStr
import Derived.Laws.IdiomStrings
import Derived.Laws.BytesArg
import Derived.Laws.BytesString
import Derived.Laws.OwnMore
import Derived.Lib.IndexLaws
import Derived.Lib.ItoaNum
import Derived.Lib.Atoi
import Derived.Lib.Bytealg
import Derived.RangeFuncNested
import Derived.RangeFuncBound
import Derived.RangeFuncCalls
import Derived.RangeFuncLeaves
import Derived.Shelf.Abstract
import Derived.Shelf.RegionOpen
import Derived.OwnWalkIn
import Derived.Lib.SlTrimSet
import Derived.Shelf.Strings.Builder1
import Derived.Shelf.Strings.Builder2
import Derived.Shelf.Strings.OnBuilder
import Derived.Shelf.Strings.Trim
import Derived.Shelf.Small.Utf8
import Derived.Shelf.Small.Strs
import Derived.Shelf.Strings.BuilderF
import Derived.Shelf.Strings.BuilderK
import Derived.Shelf.Strings.Builder2Cap
import Derived.Shelf.Strconv.Atoi
import Derived.Shelf.Strconv.Itoa0
import Derived.Shelf.Strconv.Itoa1
import Derived.Shelf.LaysM
import Derived.Shelf.Strconv.Itoa2
import Derived.Shelf.Strconv.Itoa3
import Derived.Shelf.Strconv.AtoiErrFast
import Derived.Shelf.Strconv.ParseIntEmpty
import Derived.Shelf.Strconv.AtoiFail
import Derived.Shelf.Strconv.Clone
import Derived.Shelf.Strconv.SyntaxError
import Derived.Shelf.LaysC
import Derived.Shelf.Strconv.ToError
import Derived.Shelf.Strconv.AtoiErr
import Derived.Shelf.Strings.Search1
import Derived.Shelf.Strings.Search2
import Derived.Shelf.Strings.Search3
import Derived.Shelf.Strings.Cut
import Derived.Shelf.Strings.Shaped
import Derived.Shelf.Strings.Prefix
import Derived.Shelf.Strings.Runes
import Derived.Shelf.Strings.AsciiSet
import Derived.Shelf.Bits.Mul64
import Derived.Shelf.Strings.Repeat
import Derived.Shelf.Unicode.DecodeSlow
import Derived.Shelf.Strings.BuilderCap
import Derived.Shelf.Slices.Turned
import Derived.Shelf.Strings.SlTrimAscii
import Derived.Lib.AtoiErrMem
import Derived.Handy
import Derived.Laws.ResultCell
import Derived.RegionTactic
import Derived.Lib.Repeat
import Derived.Deep.RegionHeld3
import Derived.Lib.SlicesS
import Derived.TacticsInMore
import Derived.LoopNIn
import Derived.LoopIn
import Derived.Laws.AppendOwn
import Derived.IntWalk
import Derived.Maps.OwnSet
import Derived.Maps.Range
import Derived.Deep.RegionLaw
import Derived.Laws.BitsAllLaws
import Derived.Laws.BitsLemmas
import Derived.Maps.AppendAt
import Derived.Deep.DeepCutAuto
import Derived.Deep.CutBlock
import Derived.OneCell
import Derived.Laws.Tables
import Derived.Laws.CopyOwn
import Derived.OrdersHeld
import Derived.Deep.AppendLies
import Derived.StillTailTactics
import Derived.Lib.Join
import Derived.Laws.Concat
import Derived.RangeFuncBox
set_option linter.unusedVariables false
namespace Go.Proofs.YtpaejkhaiifgdaaGreatDoor
open Go Go.Proofs Go.RowKit Go.Lib

theorem byteCells_app (a b : List UInt8) : byteCells (a ++ b) = byteCells a ++ byteCells b := by simp [byteCells]
end Go.Proofs.YtpaejkhaiifgdaaGreatDoor

set_option linter.unusedVariables false
namespace Go.Proofs.YtpaejkhaiifgdaaGreatDoor.S11
open Go Go.Proofs Go.RowKit Go.Lib Go.Proofs.YtpaejkhaiifgdaaGreatDoor

theorem currVals_len : ∀ l : List (CurrD × CurrA), (currVals l).length = l.length * 2
  | [] => rfl
  | t :: r => by
    have := currVals_len r
    unfold currVals at this ⊢
    rw [List.flatMap_cons, List.length_append, this, List.length_cons]
    show 2 + _ = _
    omega
theorem currVals_one : ∀ (l : List (CurrD × CurrA)), ∀ u ∈ currVals l, u.oneCell' = true := by
  intro l u hu
  obtain ⟨t, _, h⟩ := List.mem_flatMap.1 hu
  simp [currVs] at h
  rcases h with rfl | rfl <;> rfl
end Go.Proofs.YtpaejkhaiifgdaaGreatDoor.S11

set_option linter.unusedVariables false
namespace Go.Proofs.YtpaejkhaiifgdaaGreatDoor.S3
open Go Go.Proofs Go.RowKit Go.Lib

theorem splitL_one : ∀ (l : Str), 59 ∉ l → splitL l = [l]
  | [], _ => rfl
  | c :: s, h => by
    have ih := splitL_one s (fun hm => h (.tail _ hm))
    unfold splitL
    rw [if_neg (fun e => h (by rw [e]; exact .head _)), ih]
    rfl
theorem index_dots (b : Str) : ∀ (a : Str), 46 ∉ a → index (a ++ 46 :: 46 :: b) [46, 46] = a.length
  | [], _ => by simp [index]
  | c :: a, h => by
    have ih := index_dots b a (fun hm => h (.tail _ hm))
    have hc : ¬ (46 : UInt8) = c := fun e => h (by rw [e]; exact .head _)
    show index (c :: (a ++ 46 :: 46 :: b)) [46, 46] = _
    unfold index
    rw [ih, if_neg (by simp [hc]), if_neg (by simp only [beq_iff_eq]; omega)]
    simp
theorem index_none : ∀ (b : Str), 46 ∉ b → index b [46, 46] = -1
  | [], _ => rfl
  | c :: b, h => by
    have ih := index_none b (fun hm => h (.tail _ hm))
    have hc : ¬ (46 : UInt8) = c := fun e => h (by rw [e]; exact .head _)
    unfold index
    rw [ih, if_neg (by simp [hc])]
    rfl
theorem cut_dots (a b : Str) (h : 46 ∉ a) : Lib.cut (a ++ 46 :: 46 :: b) dots2 = (a, b, true) := by
  unfold Lib.cut dots2
  rw [index_dots b a h, if_pos (by omega)]
  simp
end Go.Proofs.YtpaejkhaiifgdaaGreatDoor.S3

set_option linter.unusedVariables false
namespace Go.Proofs.YtpaejkhaiifgdaaGreatDoor.S3
open Go Go.Proofs Go.RowKit Go.Lib

theorem ahead_take (f : Str) (r : List Str) (n : Nat) (hn : 1 ≤ n) (h : n ≤ aheadM (f :: r)) : (f :: r).take n = expandL f n := by
  obtain ⟨m, rfl⟩ : ∃ m, n = m + 1 := ⟨n - 1, by omega⟩
  unfold expandL
  rw [List.take_succ_cons, show m + 1 - 1 = m by omega]
  congr 1
  have hl := (ahead_pos f r).2
  refine List.ext_getElem (by simp; omega) (fun j h1 h2 => ?_)
  have hj : j < m := by simp at h1; omega
  have := ahead_nth f r j (by omega)
  rw [List.getElem?_eq_getElem (by omega)] at this
  simp [Option.some.inj this]
theorem range_nth (f : Str) (d : Nat) (h : hasL f = true) : rangeN f (nthS f d) = d + 1 := by
  unfold rangeN
  rw [if_pos ⟨h, has_nth _ _, by rw [num_nth]; omega, by rw [num_nth]; rfl⟩, num_nth]
  omega
theorem valid_mem {c : UInt8} {l : Str} (h : validC l = true) (hc : c ∈ l) : okC c = true := by
  unfold validC at h
  split at h
  · simp at hc
  · simp only [Bool.and_eq_true] at h
    exact List.all_eq_true.1 h.2 c hc
theorem valid_ne {l : Str} (h : validC l = true) : l ≠ [] := by
  rintro rfl
  simp [validC] at h
theorem valid_46 {l : Str} (h : validC l = true) : 46 ∉ l := fun hm => by have := valid_mem h hm; revert this; decide
theorem valid_59 {l : Str} (h : validC l = true) : 59 ∉ l := fun hm => by have := valid_mem h hm; revert this; decide

theorem part_range (f : Str) (n : Nat) (m : Int) (hn : 1 ≤ n) (hm : (n : Int) ≤ m) (h : hasL f = true) (hf : validC f = true) (hl : validC (nthS f (n - 1)) = true) : partM (rangeT f n) m = (expandL f n, 0) := by
  have hc := cut_dots f (nthS f (n - 1)) (valid_46 hf)
  have hb : befP (rangeT f n) = f := by unfold befP rangeT; rw [hc]
  have ha : aftP (rangeT f n) = nthS f (n - 1) := by unfold aftP rangeT; rw [hc]
  have hi : isP (rangeT f n) = true := by unfold isP rangeT; rw [hc]
  have hq : nP (rangeT f n) = n := by unfold nP; rw [if_pos hi, hb, ha, range_nth _ _ h]; omega
  have hcon : Lib.contains (nthS f (n - 1)) dots2 = false := by
    unfold Lib.contains dots2
    rw [index_none _ (valid_46 hl)]
    rfl
  unfold partM
  rw [hb, ha, hi, hq, hf, hl, hcon, if_neg (by simp [rangeT]), if_neg (by simp), if_neg (by omega), if_neg (by omega)]
theorem cut_none (f : Str) (h : 46 ∉ f) : Lib.cut f dots2 = (f, [], false) := by
  unfold Lib.cut dots2
  rw [index_none f h, if_neg (by omega)]
theorem part_one (f : Str) (m : Int) (hm : 1 ≤ m) (hf : validC f = true) : partM f m = ([f], 0) := by
  have hc := cut_none f (valid_46 hf)
  have hb : befP f = f := by unfold befP; rw [hc]
  have ha : aftP f = [] := by unfold aftP; rw [hc]
  have hi : isP f = false := by unfold isP; rw [hc]
  have hq : nP f = 1 := by unfold nP; rw [hi]; rfl
  have hcon : Lib.contains [] dots2 = false := by decide
  unfold partM
  rw [hb, ha, hi, hq, hf, hcon, if_neg (by simp [valid_ne hf]), if_neg (by simp), if_neg (by omega), if_neg (by omega)]
  rfl
theorem list_parts : ∀ (k : Nat) (l : List Str) (acc : List Str), l.length ≤ k → (∀ c ∈ l, validC c = true) → acc.length + l.length ≤ 64 → listGo (joinP k l) acc = (acc ++ l, 0)
  | 0, l, acc, hk, _, _ => by
    obtain rfl : l = [] := List.eq_nil_of_length_eq_zero (by omega)
    simp [joinP, listGo]
  | k + 1, [], acc, _, _, _ => by simp [joinP, listGo]
  | k + 1, f :: r, acc, hk, hv, h64 => by
    have hp := ahead_pos f r
    simp only [List.length_cons] at hk h64
    unfold joinP
    by_cases h3 : 3 ≤ aheadM (f :: r)
    · rw [if_pos h3]
      obtain ⟨n, hn⟩ : ∃ n, aheadM (f :: r) = n := ⟨_, rfl⟩
      have htk := ahead_take f r (aheadM (f :: r)) hp.1 (Nat.le_refl _)
      have hnv : validC (nthS f (aheadM (f :: r) - 1)) = true := by
        have := ahead_nth f r (aheadM (f :: r) - 2) (by omega)
        rw [show aheadM (f :: r) - 2 + 1 = aheadM (f :: r) - 1 by omega] at this
        exact hv _ (List.mem_cons_of_mem _ (List.mem_of_getElem? this))
      have hpr := part_range f (aheadM (f :: r)) (64 - (acc.length : Int)) (by omega) (by omega) (ahead_has f r (by omega)) (hv f (.head _)) hnv
      rw [hn] at htk hpr h3 hp ⊢
      have hdl : ((f :: r).drop n).length = r.length + 1 - n := by simp
      have ih := list_parts k ((f :: r).drop n) (acc ++ expandL f n) (by omega) (fun c hc => hv c (List.mem_of_mem_drop hc)) (by rw [List.length_append, expandL_len _ _ (by omega)]; omega)
      simp only [listGo, hpr]
      rw [if_neg (by simp), ih, ← htk, List.append_assoc, List.take_append_drop]
    · rw [if_neg h3]
      have hpo := part_one f (64 - (acc.length : Int)) (by omega) (hv f (.head _))
      have ih := list_parts k r (acc ++ [f]) (by omega) (fun c hc => hv c (.tail _ hc)) (by simp; omega)
      simp only [listGo, hpo]
      rw [if_neg (by simp), ih]
      simp
theorem parts_59 : ∀ (k : Nat) (l : List Str), (∀ c ∈ l, validC c = true) → ∀ p ∈ joinP k l, 59 ∉ p
  | 0, l, _, p, hp => by simp [joinP] at hp
  | k + 1, [], _, p, hp => by simp [joinP] at hp
  | k + 1, f :: r, hv, p, hp => by
    unfold joinP at hp
    split at hp
    · rename_i h3
      rcases List.mem_cons.1 hp with rfl | hp
      · have hnv : validC (nthS f (aheadM (f :: r) - 1)) = true := by
          have := ahead_nth f r (aheadM (f :: r) - 2) (by omega)
          rw [show aheadM (f :: r) - 2 + 1 = aheadM (f :: r) - 1 by omega] at this
          exact hv _ (List.mem_cons_of_mem _ (List.mem_of_getElem? this))
        intro hm
        unfold rangeT at hm
        rcases List.mem_append.1 hm with hm | hm
        · exact valid_59 (hv f (.head _)) hm
        · rcases List.mem_cons.1 hm with hm | hm
          · revert hm; decide
          · rcases List.mem_cons.1 hm with hm | hm
            · revert hm; decide
            · exact valid_59 hnv hm
      · exact parts_59 k _ (fun c hc => hv c (List.mem_of_mem_drop hc)) p hp
    · rcases List.mem_cons.1 hp with rfl | hp
      · exact valid_59 (hv p (.head _))
      · exact parts_59 k r (fun c hc => hv c (.tail _ hc)) p hp
theorem split_cons (rest : Str) : ∀ (p : Str), 59 ∉ p → splitL (p ++ 59 :: rest) = p :: splitL rest
  | [], _ => by
    show splitL (59 :: rest) = _
    conv => lhs; unfold splitL
    rw [if_pos rfl]
  | c :: p, h => by
    have ih := split_cons rest p (fun hm => h (.tail _ hm))
    show splitL (c :: (p ++ 59 :: rest)) = _
    conv => lhs; unfold splitL
    rw [if_neg (fun e => h (by rw [e]; exact .head _)), ih]
    rfl
theorem split_semi : ∀ (l : List Str), l ≠ [] → (∀ p ∈ l, 59 ∉ p) → splitL (semi l) = l
  | [], h, _ => absurd rfl h
  | [p], _, h => splitL_one p (h p (.head _))
  | p :: q :: r, _, h => by
    have ih := split_semi (q :: r) (by simp) (fun x hx => h x (.tail _ hx))
    show splitL (p ++ 59 :: semi (q :: r)) = _
    rw [split_cons _ _ (h p (.head _)), ih]
/-- What was joined is listed again. -/
theorem list_join (l : List Str) (h : checkM l = 0) : listM (joinM l) = (l, 0) := by
  obtain ⟨h64, hv⟩ := check_valid h
  match l, h, h64, hv with
  | [], _, _, _ => rfl
  | f :: r, h, h64, hv =>
    have hne : joinP (f :: r).length (f :: r) ≠ [] := by
      show joinP (r.length + 1) (f :: r) ≠ []
      unfold joinP
      split <;> simp
    have hsp : splitL (joinM (f :: r)) = joinP (f :: r).length (f :: r) := split_semi _ hne (parts_59 _ _ hv)
    have hgo := list_parts (f :: r).length (f :: r) [] (Nat.le_refl _) hv (by simpa using h64)
    have hjn : joinM (f :: r) ≠ [] := by
      intro e
      have h2 := hsp
      rw [e] at h2
      have h3 : splitL [] = [[]] := rfl
      rw [h3] at h2
      have h4 := hgo
      rw [← h2] at h4
      have h5 : partM [] (64 - (([] : List Str).length : Int)) = ([], 4) := rfl
      simp only [listGo, h5] at h4
      rw [if_pos (by simp)] at h4
      simp at h4
    unfold listM
    rw [if_neg hjn, hsp, hgo, if_neg (by simp)]
    simp only [List.nil_append]
    rw [if_neg (by rw [h]; simp)]
end Go.Proofs.YtpaejkhaiifgdaaGreatDoor.S3

set_option linter.unusedVariables false
namespace Go.Proofs.YtpaejkhaiifgdaaGreatDoor.S11
open Go Go.Proofs Go.RowKit Go.Lib Go.Proofs.YtpaejkhaiifgdaaGreatDoor

theorem currM_of {x : CurrD} (h1 : S3.validC x.1 = true) (h2 : 0 < x.2.length) (h3 : x.2.length ≤ 8) (h4 : S3.checkM x.2 = 0) : currM x = 0 := by
  unfold currM
  rw [if_neg (by simp [h1]), if_neg (by omega), if_neg (by omega)]
  exact h4
end Go.Proofs.YtpaejkhaiifgdaaGreatDoor.S11

set_option linter.unusedVariables false
set_option maxRecDepth 100000
namespace Go.Proofs.YtpaejkhaiifgdaaGreatDoor.S11
open Go Go.Proofs Go.RowKit Go.Lib Go.Proofs.YtpaejkhaiifgdaaGreatDoor Go.Proofs.YtpaejkhaiifgdaaGreatDoor.S10

theorem colsM_memU : ∀ (c : Int) (l : List Str) (f : FieldD), f ∈ colsM c l → f.1 ∈ l
  | c, [], f, h => by simp [colsM] at h
  | c, s :: r, f, h => by
    simp only [colsM, List.mem_cons] at h
    rcases h with rfl | h
    · simp
    · exact List.mem_cons_of_mem _ (colsM_memU _ r f h)
theorem plainM_memU {l : List (List Str)} {x : RecD} (h : x ∈ plainM l) : ∀ f ∈ x.2, ∃ r ∈ l, f.1 ∈ r := by
  unfold plainM at h
  obtain ⟨i, hi, rfl⟩ := List.mem_mapIdx.1 h
  exact fun f hf => ⟨l[i], List.getElem_mem hi, colsM_memU _ _ f hf⟩
theorem course_pick (l : List Str) (h : l.Nodup) (hm : ∀ s ∈ l, s = courseS 0 ∨ s = courseS 1 ∨ s = courseS 2) : S3.checkM l = 0 ∧ (S3.joinM l).length ≤ 20 ∧ l.length ≤ 3 := by
  match l, h, hm with
  | [], _, _ => exact ⟨rfl, by decide, by decide⟩
  | [a], h, hm =>
    rcases hm a (by simp) with rfl | rfl | rfl <;> exact ⟨by decide +kernel, by decide +kernel, by simp⟩
  | [a, b], h, hm =>
    rcases hm a (by simp) with rfl | rfl | rfl <;> rcases hm b (by simp) with rfl | rfl | rfl <;> first | exact ⟨by decide +kernel, by decide +kernel, by simp⟩ | (exfalso; simp at h)
  | [a, b, c], h, hm =>
    rcases hm a (by simp) with rfl | rfl | rfl <;> rcases hm b (by simp) with rfl | rfl | rfl <;> rcases hm c (by simp) with rfl | rfl | rfl <;> first | exact ⟨by decide +kernel, by decide +kernel, by simp⟩ | (exfalso; simp at h)
  | a :: b :: c :: d :: r, h, hm =>
    exfalso
    rcases hm a (by simp) with rfl | rfl | rfl <;> rcases hm b (by simp) with rfl | rfl | rfl <;> rcases hm c (by simp) with rfl | rfl | rfl <;> rcases hm d (by simp) with rfl | rfl | rfl <;> simp at h
theorem currs_made {d s : Int} {n : Nat} {nm : List Str} {cls : List ClassD} (hc : ClassesOk d s n nm cls) {ls : List CurrD} (h : CurrsOk (coursesOf cls) ls) {j : Nat} {x : CurrD} (hj : ls[j]? = some x) :
    x.1 = codeCS j ∧ currM x = 0 ∧ (S3.joinM x.2).length ≤ 20 := by
  have h3 := h.len
  have hlt : j < ls.length := (List.getElem?_eq_some_iff.1 hj).1
  obtain ⟨h1, h2, hsub⟩ := h.at_ j x hj
  have hgo := coursesOf_go cls [] (by simp)
  have hp := course_pick x.2 (hsub.nodup hgo.1) (fun s hs => by
    rcases hgo.2.2 s (hsub.subset hs) with h | ⟨y, hy, rfl⟩
    · simp at h
    · obtain ⟨i, hi, rfl⟩ := List.mem_iff_getElem.1 hy
      obtain ⟨k, hk, e⟩ := (hc.at_ i _ (List.getElem?_eq_getElem hi)).course
      rw [e]
      rcases (show k = 0 ∨ k = 1 ∨ k = 2 by omega) with rfl | rfl | rfl
      · exact .inl rfl
      · exact .inr (.inl rfl)
      · exact .inr (.inr rfl))
  have hne : 0 < x.2.length := List.length_pos_iff.2 h2
  refine ⟨h1, currM_of ?_ hne (by omega) hp.1, hp.2.1⟩
  rw [h1]
  rcases (show j = 0 ∨ j = 1 ∨ j = 2 by omega) with rfl | rfl | rfl <;> decide +kernel
theorem entry_row {x : CurrD} (h : currM x = 0) : entryM (colsM 1 (rowU x)) = (x, 0, 0) := by
  obtain ⟨h1, h2, h3, h4⟩ := currM_all h
  have e : coursesM (S3.joinM x.2) = (x.2, 0) := by
    unfold coursesM
    rw [S3.list_join x.2 h4]
    rw [if_neg (by simp), if_neg (by simp; exact List.ne_nil_of_length_pos h2), if_neg (by simp; omega)]
  obtain ⟨c, cs⟩ := x
  dsimp only at h1 e
  unfold entryM rowU
  simp [colsM, efold, setF, zeroR, h1, e]
theorem recM_row {x : CurrD} (h : currM x = 0) (l : List CurrD) (bad : List ProbD) (i : Int) (hn : x.1 ∉ codesU l) (hl : l.length < 16) : recM (l, bad) (i, colsM 1 (rowU x)) = (l ++ [x], bad) := by
  unfold recM
  dsimp only
  rw [entry_row h]
  dsimp only
  have ha : addC l x.1 = 0 := by unfold addC; rw [if_neg hn, if_neg (by omega)]
  rw [if_neg (by simp), if_neg (by simp [ha])]
theorem currs_back {d s : Int} {n : Nat} {nm : List Str} {cls : List ClassD} (hc : ClassesOk d s n nm cls) {ls : List CurrD} (h : CurrsOk (coursesOf cls) ls) :
    validU ls = 0 ∧ recsM (plainM (ls.map rowU)) = (ls, []) ∧ ∀ r ∈ ls.map rowU, r.length = 2 ∧ ∀ x ∈ r, x.length ≤ 20 := by
  have h3 := h.len
  have hM : ∀ (j : Nat) (x : CurrD), ls[j]? = some x → x.1 = codeCS j ∧ currM x = 0 ∧ (S3.joinM x.2).length ≤ 20 := fun j x hj => currs_made hc h hj
  refine ⟨?_, ?_, fun r hr => ?_⟩
  · unfold validU
    rw [if_neg (by omega)]
    match ls, h3, hM with
    | [], _, _ => rfl
    | [x], _, hM =>
      have k0 := hM 0 x rfl
      simp [goU, k0.2.1]
    | [x, y], _, hM =>
      have k0 := hM 0 x rfl
      have k1 := hM 1 y rfl
      simp [goU, k0.2.1, k1.2.1, k0.1, k1.1, codeCS]
    | [x, y, z], _, hM =>
      have k0 := hM 0 x rfl
      have k1 := hM 1 y rfl
      have k2 := hM 2 z rfl
      simp [goU, k0.2.1, k1.2.1, k2.2.1, k0.1, k1.1, k2.1, codeCS]
    | _ :: _ :: _ :: _ :: _, h3, _ => exact absurd h3 (by simp)
  · unfold recsM plainM
    match ls, h3, hM with
    | [], _, _ => rfl
    | [x], _, hM =>
      have k0 := hM 0 x rfl
      simp only [List.map_cons, List.map_nil, List.mapIdx_cons, List.mapIdx_nil, List.foldl_cons, List.foldl_nil]
      rw [recM_row k0.2.1 _ _ _ (by simp [codesU]) (by simp)]
      rfl
    | [x, y], _, hM =>
      have k0 := hM 0 x rfl
      have k1 := hM 1 y rfl
      simp only [List.map_cons, List.map_nil, List.mapIdx_cons, List.mapIdx_nil, List.foldl_cons, List.foldl_nil]
      rw [recM_row k0.2.1 _ _ _ (by simp [codesU]) (by simp), recM_row k1.2.1 _ _ _ (by simp [codesU, k0.1, k1.1, codeCS]) (by simp)]
      rfl
    | [x, y, z], _, hM =>
      have k0 := hM 0 x rfl
      have k1 := hM 1 y rfl
      have k2 := hM 2 z rfl
      simp only [List.map_cons, List.map_nil, List.mapIdx_cons, List.mapIdx_nil, List.foldl_cons, List.foldl_nil]
      rw [recM_row k0.2.1 _ _ _ (by simp [codesU]) (by simp), recM_row k1.2.1 _ _ _ (by simp [codesU, k0.1, k1.1, codeCS]) (by simp), recM_row k2.2.1 _ _ _ (by simp [codesU, k0.1, k1.1, k2.1, codeCS]) (by simp)]
      rfl
    | _ :: _ :: _ :: _ :: _, h3, _ => exact absurd h3 (by simp)
  · obtain ⟨x, hx, rfl⟩ := List.mem_map.1 hr
    obtain ⟨j, hj, rfl⟩ := List.mem_iff_getElem.1 hx
    have k := hM j _ (List.getElem?_eq_getElem hj)
    refine ⟨rfl, fun y hy => ?_⟩
    simp only [rowU, List.mem_cons, List.not_mem_nil, or_false] at hy
    rcases hy with rfl | rfl
    · rw [k.1]
      simp [codeCS]
    · exact k.2.2
end Go.Proofs.YtpaejkhaiifgdaaGreatDoor.S11

set_option linter.unusedVariables false
namespace Go.Proofs.YtpaejkhaiifgdaaGreatDoor.S11
open Go Go.Proofs Go.RowKit Go.Lib Go.Proofs.YtpaejkhaiifgdaaGreatDoor

theorem own_free {w : World} {B : Nat} {e : TypeId} {size n cap g : Nat} {xs : List Value} (h : w.ownsRow B e size (.slice (some ⟨g, 0, none⟩) n cap) n xs) (j : Nat) : w.frozen? ⟨g, j, none⟩ = false := by
  rcases h.2 with ⟨h2, _⟩ | ⟨g', cap', cur, hv, hB, hg, _⟩
  · injection h2 with h2; injection h2
  · injection hv with hv _ hc
    injection hv with hv
    injection hv with hv
    subst hv
    simp [World.frozen?, hg]
/-- Rows that may be written to. -/
def RowsF (w : World) (B : Nat) (v : Value) (L : List RowA) : Prop := RowsRow w B v L ∧ ∀ p ∈ L, p.1 ≠ [] → ∀ b off, p.2.1 = some ⟨b, off, none⟩ → ∀ j, w.frozen? ⟨b, j, none⟩ = false
theorem RowsF.nil (w : World) (B : Nat) : RowsF w B (.slice none 0 0) [] := ⟨RowsRow.nil _ _, fun p hp => by simp at hp⟩
theorem RowsF.low {w : World} {B B' : Nat} {v : Value} {L : List RowA} (h : RowsF w B v L) (hB : B' ≤ B) : RowsF w B' v L := ⟨h.1.low hB, h.2⟩
theorem RowsF.at_ {w : World} {B : Nat} {v : Value} {L : List RowA} (h : RowsF w B v L) {p : RowA} (hp : p ∈ L) (hne : p.1 ≠ []) : ∃ b off, p.2.1 = some ⟨b, off, none⟩ ∧ (B ≤ b ∧ b < w.heap.size ∧ v.ownBlock ≠ some b) ∧ (∀ j, w.frozen? ⟨b, j, none⟩ = false) ∧ ∀ (j : Nat) (s : Str), p.1[j]? = some s → w.cell? ⟨b, off + j, none⟩ = some (.string (ba s)) := by
  rcases (h.1.2 p hp).1 with h0 | ⟨b, off, hA, hP, hc⟩
  · exact absurd h0 hne
  · exact ⟨b, off, hA, hP, h.2 p hp hne b off hA, hc⟩
theorem RowsF.snoc {w w1 w2 w3 w4 : World} {B : Nat} {v v' : Value} {L : List RowA} {l : List Str} {A : Option Addr} {c : Nat} (h : RowsF w B v L) (hBw : B ≤ w1.heap.size) (h1 : Below w.heap.size w w1) (hb : Below w1.heap.size w1 w2) (hr : S3.StrRow w2 w1.heap.size (.slice A l.length c) l)
    (h3 : Below w2.heap.size w2 w3) (hown' : w4.ownsRow B 39 1 v' (L.length + 1) (L.map rowV ++ [.slice A l.length c])) (hg : w3.grownBy w4 v.ownBlock) (hat : v'.ownBlock = v.ownBlock ∨ v'.ownBlock = some w3.heap.size) : RowsF w4 B v' (L ++ [(l, A, c)]) := by
  have hs1 := h1.size
  have hs2 := hb.size
  have hs3 := h3.size
  have hvl : ∀ g, v.ownBlock = some g → g < w.heap.size := fun g hg => (World.ownsRow.lt h.1.1 g hg).2
  refine ⟨RowsRow.snoc h.1 hBw h1 hb hr h3 hown' hg hat, fun p hp hne b off hA j => ?_⟩
  rcases List.mem_append.1 hp with hp | hp
  · obtain ⟨b', off', hA', ⟨k1, k2, k3⟩, hf, _⟩ := h.at_ hp hne
    rw [hA] at hA'
    injection hA' with hA'
    injection hA' with e1 e2
    subst e1
    have e : w4.heap[b]? = w.heap[b]? := by rw [hg.block b (by omega) (fun e => k3 e.symm), h3.block b (by omega), hb.block b (by omega), h1.block b k2]
    exact (World.frozen?_of_block (a := ⟨b, j, none⟩) e).trans (hf j)
  · rw [List.mem_singleton] at hp
    subst hp
    have hl0 : 0 < l.length := List.length_pos_iff.2 hne
    obtain ⟨g, cap, hv, hgB, hgs⟩ := World.ownsRow.form hr hl0
    dsimp only at hA
    subst hA
    injection hv with hv _ hc
    injection hv with hv
    injection hv with e1 e2
    subst e1 e2 hc
    have hf := own_free hr j
    have e : w4.heap[b]? = w2.heap[b]? := by rw [hg.block b (by omega) (fun e => by have := hvl b e.symm; omega), h3.block b (by omega)]
    exact (World.frozen?_of_block (a := ⟨b, j, none⟩) e).trans hf
def WriteOutF (o : List (List Str) × Int) (w : World) (e : Ending) (w' : World) : Prop := (∃ v L, L.map (·.1) = o.1 ∧ e = .returned (.tuple #[v, .int .i64 o.2]) ∧ RowsF w' w.heap.size v L) ∧ Below w.heap.size w w'
end Go.Proofs.YtpaejkhaiifgdaaGreatDoor.S11

set_option linter.unusedVariables false
namespace Go.Proofs.YtpaejkhaiifgdaaGreatDoor.S11
open Go Go.Proofs Go.RowKit Go.Lib Go.Proofs.YtpaejkhaiifgdaaGreatDoor Go.Proofs.YtpaejkhaiifgdaaGreatDoor.S10

theorem own_kept {w w' : World} {B : Nat} {e : TypeId} {z n : Nat} {v : Value} {xs : List Value} (h : w.ownsRow B e z v n xs) (hk : ∀ b, v.ownBlock = some b → w'.heap[b]? = w.heap[b]?) : w'.ownsRow B e z v n xs := by
  obtain ⟨h1, h2⟩ := h
  refine ⟨h1, ?_⟩
  rcases h2 with h2 | ⟨g, cap, cur, hv, hB, hg, r⟩
  · exact .inl h2
  · exact .inr ⟨g, cap, cur, hv, hB, (hk g (by rw [hv]; rfl)).trans hg, r⟩
theorem RowsF.kept {w w' : World} {B : Nat} {v : Value} {L : List RowA} (h : RowsF w B v L) (hk : ∀ b, B ≤ b → b < w.heap.size → w'.heap[b]? = w.heap[b]?) (hz : w.heap.size ≤ w'.heap.size) : RowsF w' B v L := by
  refine ⟨⟨own_kept h.1.1 (fun b hb => by have := World.ownsRow.lt h.1.1 b hb; exact hk b this.1 this.2), fun p hp => ?_⟩, fun p hp hne b off hA j => ?_⟩
  · obtain ⟨f1, f2, f3⟩ := h.1.2 p hp
    exact ⟨(f1.kept (fun b hb => hk b hb.1 hb.2.1)).mono (fun b hb => ⟨hb.1, by omega, hb.2.2⟩), f2, f3⟩
  · obtain ⟨b', off', hA', ⟨k1, k2, k3⟩, hf, _⟩ := h.at_ hp hne
    rw [hA] at hA'
    injection hA' with hA'
    injection hA' with e1 e2
    subst e1
    exact (World.frozen?_of_block (a := ⟨b, j, none⟩) (hk b k1 k2)).trans (hf j)
/-- Strings in memory, one of their cells written. -/
theorem strs_store {w : World} {P : Nat → Prop} {A : Option Addr} {l : List Str} (h : S3.StrsIn w P A l) (b o : Nat) (X : Str) : ∃ l' : List Str, l'.length = l.length ∧ (∀ x ∈ l', x ∈ l ∨ x = X) ∧ S3.StrsIn (w.setCell ⟨b, o, none⟩ (.string (ba X))) P A l' := by
  rcases h with rfl | ⟨b', off', rfl, hP, hc⟩
  · exact ⟨[], rfl, fun x hx => by simp at hx, .inl rfl⟩
  · refine ⟨l.mapIdx (fun i s => if b' = b ∧ off' + i = o then X else s), by simp, fun x hx => ?_, .inr ⟨b', off', rfl, hP, fun j s hj => ?_⟩⟩
    · obtain ⟨i, hi, rfl⟩ := List.mem_mapIdx.1 hx
      split
      · exact .inr rfl
      · exact .inl (List.getElem_mem hi)
    · rw [List.getElem?_mapIdx] at hj
      obtain ⟨s0, hs0, rfl⟩ := Option.map_eq_some_iff.1 hj
      have hcj := hc j s0 hs0
      by_cases e : b' = b ∧ off' + j = o
      · obtain ⟨rfl, rfl⟩ := e
        rw [if_pos ⟨rfl, rfl⟩]
        exact World.cell?_setCell_same' w ⟨b', off' + j, none⟩ _ (by rw [hcj]; rfl)
      · rw [if_neg e]
        refine Eq.trans ?_ hcj
        apply World.cell?_setCell_other
        intro e2
        injection e2 with e3 e4
        exact e ⟨e3.symm, e4.symm⟩
theorem rows_store {w w' : World} {P : Nat → Prop} (X : Str) (hw : ∀ A l, S3.StrsIn w P A l → ∃ l' : List Str, l'.length = l.length ∧ (∀ x ∈ l', x ∈ l ∨ x = X) ∧ S3.StrsIn w' P A l') : ∀ L : List RowA, (∀ p ∈ L, S3.StrsIn w P p.2.1 p.1) →
    ∃ L' : List RowA, L'.length = L.length ∧ L'.map rowV = L.map rowV ∧ ∀ p ∈ L', ∃ q ∈ L, p.2 = q.2 ∧ p.1.length = q.1.length ∧ (∀ x ∈ p.1, x ∈ q.1 ∨ x = X) ∧ S3.StrsIn w' P p.2.1 p.1
  | [], _ => ⟨[], rfl, rfl, fun p hp => by simp at hp⟩
  | q :: r, h => by
    obtain ⟨L', h1, h2, h3⟩ := rows_store X hw r (fun p hp => h p (by simp [hp]))
    obtain ⟨l', k1, k2, k3⟩ := hw _ _ (h q (by simp))
    refine ⟨(l', q.2) :: L', by simp [h1], ?_, fun p hp => ?_⟩
    · rw [List.map_cons, List.map_cons, h2]
      congr 1
      unfold rowV
      rw [k1]
    · rcases List.mem_cons.1 hp with rfl | hp
      · exact ⟨q, by simp, rfl, k1, k2, k3⟩
      · obtain ⟨q', hq', r⟩ := h3 p hp
        exact ⟨q', by simp [hq'], r⟩
/-- The records that Write made, and the dice. -/
structure MS (w5 : World) (g c : Nat) (A : Option Addr) (L : List Int) (vf : Value) (Lf : List RowA) (w : World) : Prop where
  e : ∃ k, DE w5 g c A L k w
  f : RowsF w w5.heap.size vf Lf
  s : ∀ p ∈ Lf, p.1.length = 2 ∧ ∀ x ∈ p.1, x.length ≤ 2000
  g0 : g < w5.heap.size
section
variable {w5 w w' : World} {g c : Nat} {A : Option Addr} {L : List Int} {vf vf' : Value} {Lf : List RowA}
theorem MS.played {k' : Nat} (h : MS w5 g c A L vf Lf w) (he : DE w g c A L k' w') : MS w5 g c A L vf Lf w' := by
  obtain ⟨k, h0⟩ := h.e
  have hg := h.g0
  exact ⟨⟨k', h0.trans he⟩, h.f.kept (fun b h1 h2 => he.p.block b h2 (by omega)) he.p.size, h.s, hg⟩
theorem MS.next (h : MS w5 g c A L vf Lf w) (k : Below w.heap.size w w') : MS w5 g c A L vf Lf w' := by
  obtain ⟨j, h0⟩ := h.e
  exact ⟨⟨j, h0.below (k.mono h0.p.size) h.g0⟩, h.f.kept (fun b h1 h2 => k.block b h2) k.size, h.s, h.g0⟩
theorem MS.dice (h : MS w5 g c A L vf Lf w) : ∃ k, DiceAt w g A L c k := by
  obtain ⟨k, h0⟩ := h.e
  exact ⟨k, h0.d⟩
/-- One string of the records written. -/
theorem MS.store {p : RowA} {b off : Nat} (h : MS w5 g c A L vf Lf w) (hp : p ∈ Lf) (hA : p.2.1 = some ⟨b, off, none⟩) (o : Nat) (X : Str) (hX : X.length ≤ 2000) :
    ∃ Lf', Lf'.length = Lf.length ∧ MS w5 g c A L vf Lf' (w.setCell ⟨b, o, none⟩ (.string (ba X))) := by
  obtain ⟨j, h0⟩ := h.e
  have hg := h.g0
  obtain ⟨b', off', hA', ⟨k1, k2, k3⟩, _, _⟩ := h.f.at_ hp (fun e => by have := (h.s p hp).1; rw [e] at this; simp at this)
  rw [hA] at hA'
  injection hA' with hA'
  injection hA' with e1 e2
  subst e1
  have hz : (w.setCell ⟨b, o, none⟩ (.string (ba X))).heap.size = w.heap.size := by simp [World.setCell]
  obtain ⟨L', l1, l2, l3⟩ := rows_store (P := fun x => w5.heap.size ≤ x ∧ x < w.heap.size ∧ vf.ownBlock ≠ some x) X (fun A l hs => strs_store hs b o X) Lf (fun p hp => (h.f.1.2 p hp).1)
  refine ⟨L', l1, ⟨j, h0.set _ _ _ k1 (by omega)⟩, ⟨⟨?_, fun q hq => ?_⟩, fun q hq hne b2 off2 hA2 j2 => ?_⟩, fun q hq => ?_, hg⟩
  · rw [l1, l2]
    exact own_kept h.f.1.1 (fun x hx => Below.heap_setCell w ⟨b, o, none⟩ _ x (fun e => k3 (by rw [hx]; exact congrArg some e)))
  · obtain ⟨q0, hq0, m1, m2, m3, m4⟩ := l3 q hq
    obtain ⟨_, f2, f3⟩ := h.f.1.2 q0 hq0
    exact ⟨m4.mono (fun x hx => ⟨hx.1, by rw [hz]; exact hx.2.1, hx.2.2⟩), by rw [m2, m1]; exact f2, by rw [m1]; exact f3⟩
  · obtain ⟨q0, hq0, m1, m2, m3, m4⟩ := l3 q hq
    rw [World.frozen?_setCell]
    exact h.f.2 q0 hq0 (fun e => hne (List.eq_nil_of_length_eq_zero (by rw [m2, e]; rfl))) b2 off2 (by rw [← m1]; exact hA2) j2
  · obtain ⟨q0, hq0, m1, m2, m3, m4⟩ := l3 q hq
    refine ⟨m2.trans (h.s q0 hq0).1, fun x hx => ?_⟩
    rcases m3 x hx with hx | rfl
    · exact (h.s q0 hq0).2 x hx
    · exact hX
end
/-- Records that may have got two more. -/
structure MT (w5 : World) (g c : Nat) (A : Option Addr) (L : List Int) (Af : Option Addr) (rows : List (List Str)) (w : World) : Prop where
  e : ∃ k, DE w5 g c A L k w
  f : RowsIn w (fun b => w5.heap.size ≤ b ∧ b < w.heap.size) Af rows
  s : ∀ r ∈ rows, r.length ≤ 2 ∧ ∀ x ∈ r, x.length ≤ 2000
  n : rows.length ≤ 1000
  g0 : g < w5.heap.size
section
variable {w5 w w' : World} {g c : Nat} {A Af : Option Addr} {L : List Int} {rows : List (List Str)}
theorem MT.played {k' : Nat} (h : MT w5 g c A L Af rows w) (he : DE w g c A L k' w') : MT w5 g c A L Af rows w' := by
  obtain ⟨k, h0⟩ := h.e
  have hg := h.g0
  have hz := he.p.size
  exact ⟨⟨k', h0.trans he⟩, (h.f.kept (fun b hb => he.p.block b hb.2 (by omega))).mono (fun b hb => ⟨hb.1, by omega⟩), h.s, h.n, hg⟩
theorem MT.next (h : MT w5 g c A L Af rows w) (k : Below w.heap.size w w') : MT w5 g c A L Af rows w' := by
  obtain ⟨j, h0⟩ := h.e
  have hz := k.size
  exact ⟨⟨j, h0.below (k.mono h0.p.size) h.g0⟩, (h.f.kept (fun b hb => k.block b hb.2)).mono (fun b hb => ⟨hb.1, by omega⟩), h.s, h.n, h.g0⟩
theorem MT.dice (h : MT w5 g c A L Af rows w) : ∃ k, DiceAt w g A L c k := by
  obtain ⟨k, h0⟩ := h.e
  exact ⟨k, h0.d⟩
end
theorem MS.toT {w5 w : World} {g c : Nat} {A : Option Addr} {L : List Int} {Af : Option Addr} {nf cf : Nat} {Lf : List RowA} (h : MS w5 g c A L (.slice Af nf cf) Lf w) (hn : Lf.length ≤ 100) : nf = Lf.length ∧ MT w5 g c A L Af (Lf.map (·.1)) w := by
  obtain ⟨A6, c6, hv, _, _, hri⟩ := h.f.1.rowsIn
  injection hv with e1 e2 e3
  subst e1
  exact ⟨e2, h.e, hri, fun r hr => by obtain ⟨p, hp, rfl⟩ := List.mem_map.1 hr; exact ⟨Nat.le_of_eq (h.s p hp).1, (h.s p hp).2⟩, by rw [List.length_map]; omega, h.g0⟩
end Go.Proofs.YtpaejkhaiifgdaaGreatDoor.S11

set_option linter.unusedVariables false
namespace Go.Proofs.YtpaejkhaiifgdaaGreatDoor.S11
open Go Go.Proofs Go.RowKit Go.Lib Go.Proofs.YtpaejkhaiifgdaaGreatDoor

set_option maxHeartbeats 16000000 in
set_option maxRecDepth 100000 in
theorem urwriteF_any (A : Option Addr) (l : List CurrD) (c : Nat) (w : World) (h : CurrsIn w (fun k => k < w.heap.size) A l) :
    Calls Tryz.prog 9 #[.slice A l.length c] w (WriteOutF (writeU l) w) := by
  obtain ⟨iS, hiS, hzS, hsS, hbS⟩ := info_parts infoStrs7
  unfold WriteOutF writeU
  have cV := urvalid_any A l c w h
  unfold Says at cV
  obtain ⟨R, hR⟩ : ∃ R, validU l = R := ⟨_, rfl⟩
  rw [hR] at cV ⊢
  have CV := hid cV
  have HH := hid (fun (w' : World) (hb : Below w.heap.size w w') => h.below hb)
  clear h cV
  by_cases hR0 : R = 0
  · subst hR0
    obtain ⟨h16, hok⟩ := validU_ok hR
    have HOK := hid hok
    rw [if_neg (by simp)]
    clear hR hok
    go_enter Tryz.func9, Tryz.ntmps9
    go_wp2_with fail
    refine CV.out.mono ?_
    rintro e w1 ⟨rfl, hb⟩
    have HB1 := hid hb
    clear hb CV
    go_wp2
    go_loopw [5, 6] (fun v iv wr => ∃ (i : Nat) (L : List RowA), iv = .int .i64 (i : Int) ∧ i ≤ l.length ∧ Hid (L.map (·.1) = (l.take i).map rowU) ∧ Hid (RowsF wr w.heap.size v L) ∧ Hid (Below w.heap.size w wr)) (fun _ iv _ => l.length - (RowKit.intOf iv).toNat)
    case atStart => exact ⟨0, [], rfl, Nat.zero_le _, hid rfl, hid (RowsF.nil _ _), HB1⟩
    case round =>
      clear HB1
      obtain ⟨i, L, rfl, hi, hL, hrow, hB⟩ := hrel
      obtain ⟨Ar, cr, hvr, _⟩ := hrow.out.1.rowsIn
      subst hvr
      have hLl : L.length = i := by
        have := congrArg List.length hL.out
        rw [List.length_map, List.length_map, List.length_take] at this
        omega
      have HLL := hid hLl
      clear hLl
      by_cases hlt : i < l.length
      · have hltz : (i : Int) < (l.length : Int) := by omega
        have dk : decide (l.length ≤ i) = false := decide_eq_false (by omega)
        obtain ⟨fb, fo, ⟨A2, c2⟩, rfl, hfb, hri, y0, y1⟩ := (HH.out _ hB.out).at_ hlt
        have hroom := currM_all (HOK.out _ (List.getElem_mem hlt))
        have hst : (l.take (i + 1)).map rowU = L.map (·.1) ++ [rowU l[i]] := by rw [hL.out, List.take_succ_eq_append_getElem hlt, List.map_append]; rfl
        have cJ := S3.rjoin_any A2 l[i].2 c2 wr (hri.t.mono (fun k hk => Nat.lt_of_lt_of_le hk hB.out.size)) hri.t1 hri.t2
        unfold S3.JoinOut at cJ
        rw [if_pos hroom.2.2.2, hroom.2.2.2] at cJ
        have hy0 : ∀ W, Below wr.heap.size wr W → W.cell? ⟨fb, fo + i * 2, none⟩ = some (.string (ba l[i].1)) := fun W hb => (hb.cell (p := ⟨fb, fo + i * 2, none⟩) (Nat.lt_of_lt_of_le hfb hB.out.size)).trans y0
        obtain ⟨⟨code, ts⟩, hr⟩ : ∃ r, l[i] = r := ⟨_, rfl⟩
        rw [hr] at y1 cJ hst hy0
        dsimp only at y1 cJ hy0
        have hrw : rowU (code, ts) = [code, S3.joinM ts] := rfl
        obtain ⟨RW, hRW⟩ : ∃ r, rowU (code, ts) = r := ⟨_, rfl⟩
        rw [hRW] at hst hrw
        obtain ⟨X1, hX1⟩ : ∃ X, ba code = X := ⟨_, rfl⟩
        obtain ⟨X5, hX5⟩ : ∃ X, S3.ba (S3.joinM ts) = X := ⟨_, rfl⟩
        have hrs : S3.strVals RW = [.string X1, .string X5] := by rw [hrw, ← hX1, ← hX5]; rfl
        have hr2 : RW.length = 2 := by rw [hrw]; rfl
        obtain ⟨T1, hT1⟩ : ∃ F, ts.length = F := ⟨_, rfl⟩
        rw [hX1] at hy0
        rw [hX5] at cJ
        rw [hT1] at y1 cJ
        have CJ := hid cJ
        have HY0 := hid hy0
        have HST := hid hst
        have HRS := hid hrs
        have HR2 := hid hr2
        clear hr hRW hX1 hX5 hT1 cJ hst hri hroom hrw hrs hr2 y0 hy0
        go_wp2_with fail
        refine CJ.out.mono ?_
        rintro e w2 ⟨rfl, hb2⟩
        have y0 := HY0.out w2 hb2
        have hrow2 : (w2.alloc (.cells #[.string X1, .string X5] 9)).ownsRow w.heap.size 39 1 (.slice Ar L.length cr) L.length (L.map rowV) := World.ownsRow.alloc (row_under hrow.out.1.1 hb2) _
        have hsz2 : w.heap.size ≤ w2.heap.size := Nat.le_trans hB.out.size hb2.size
        have hrowi : S3.StrRow (w2.alloc (.cells #[.string X1, .string X5] 9)) w2.heap.size (.slice (some ⟨w2.heap.size, 0, none⟩) RW.length 2) RW := by
          unfold S3.StrRow
          rw [HRS.out, HR2.out]
          exact World.ownsRow_lit w2 #[.string X1, .string X5] 2 (Nat.le_refl _) (by decide) rfl
        have hnew := one_new (w2.alloc (.cells #[.string X1, .string X5] 9)) (.slice (some ⟨w2.heap.size, 0, none⟩) 2 2) 39
        rw [show (w2.alloc (.cells #[.string X1, .string X5] 9)).heap.size = w2.heap.size + 1 by simp] at hnew
        have HNEW := hid hnew
        have HB2 := hid hb2
        have HRowi := hid hrowi
        have HRow2 := hid hrow2
        have HSZ := hid hsz2
        have HC3 : Hid (L.length + 1 ≤ maxLen) := by unfold maxLen; exact hid (by have := HLL.out; omega)
        have HC4 : Hid ((L.length + 1) * 24 ≤ 140737488355328) := hid (by have := HLL.out; omega)
        have HC5 : Hid (∀ o : Obj, w.heap.size ≤ ((w2.alloc (.cells #[.string X1, .string X5] 9)).alloc o).heap.size) := hid (fun o => by have := HSZ.out; simp; omega)
        clear hb2 hrowi hrow2 hsz2 hnew CJ y1
        go_wp2_with (at_builtin; refine wpList_append_own_at _ rfl _ _ 29 rfl w.heap.size 39 iS (.slice none 0 0) 1 24 Tryz.underlying29 hiS hzS hsS hbS rfl (by decide) _ L.length (L.map rowV) rfl (World.ownsRow.alloc HRow2.out _) ⟨w2.heap.size + 1, 0, none⟩ 1 1 [.slice (some ⟨w2.heap.size, 0, none⟩) 2 2] rfl rfl HNEW.out (one_slice _ _ _) HC3.out HC4.out (HC5.out _) ?_)
        intro v' w4 hown' hgrow _ hat
        have hown2 : w4.ownsRow w.heap.size 39 1 v' (L.length + 1) (L.map rowV ++ [.slice (some ⟨w2.heap.size, 0, none⟩) RW.length 2]) := by rw [HR2.out]; exact hown'
        have hsn := RowsF.snoc hrow.out HSZ.out HB2.out ((Below.refl w2.heap.size w2).alloc (Nat.le_refl _) (.cells #[.string X1, .string X5] 9)) HRowi.out ((Below.refl _ (w2.alloc (.cells #[.string X1, .string X5] 9))).alloc (Nat.le_refl _) _) hown2 hgrow (hat.imp id (fun h => h.trans (by simp)))
        have hg' := grownBy_of_alloc hgrow
        have hba : Below w.heap.size w (w2.alloc (.cells #[.string X1, .string X5] 9)) := (hB.out.trans (HB2.out.mono hB.out.size)).alloc HSZ.out _
        have HB4 : Hid (Below w.heap.size w w4) := hid (hba.grown hg' (by have := HSZ.out; simp; omega) (fun k hk => (World.ownsRow.lt HRow2.out k hk).1))
        have HSN := hid hsn
        have HL2 : Hid (((L ++ [(RW, some (⟨w2.heap.size, 0, none⟩ : Addr), 2)]) : List RowA).map (·.1) = (l.take (i + 1)).map rowU) := hid (by rw [HST.out, List.map_append]; rfl)
        clear hba hg' hgrow hown' hown2 hsn hat y0 HNEW HC3 HC4 HC5
        go_wp2_with fail
        go_roundw
        case rel => exact ⟨i + 1, L ++ [(RW, some ⟨w2.heap.size, 0, none⟩, 2)], by go_num, by omega, HL2, HSN, HB4⟩
        case measure => simp [RowKit.intOf]; omega
      · have hltz : ¬ (i : Int) < (l.length : Int) := by omega
        have hL2 : Hid (L.map (·.1) = l.map rowU) := hid (by rw [hL.out, List.take_of_length_le (by omega)])
        go_wp2
        go_ret2
        exact ⟨⟨_, L, hL2.out, rfl, hrow.out⟩, hB.out⟩
  · have hR1 : (R != 0) = true := by simpa using hR0
    have hR2 : (R == 0) = false := by simpa using hR0
    rw [if_pos hR0]
    clear hR
    go_enter Tryz.func9, Tryz.ntmps9
    go_wp2_with fail
    refine CV.out.mono ?_
    rintro e w1 ⟨rfl, hb⟩
    have HB1 := hid hb
    clear hb CV
    go_wp2
    go_ret2
    exact ⟨⟨_, [], rfl, rfl, RowsF.nil _ _⟩, HB1.out⟩
end Go.Proofs.YtpaejkhaiifgdaaGreatDoor.S11

