/-
  The program's Students. Conditions: the requests lie in memory; the texts fit into memory.
-/
import Derived.Test.YtlgmanbilaminaaGreatDoorXN01
import Derived.Test.YtlgmanbilaminaaGreatDoorXN02
import Derived.Test.YtlgmanbilaminaaGreatDoorXN03
import Derived.Test.YtlgmanbilaminaaGreatDoorXN04
import Derived.Test.YtlgmanbilaminaaGreatDoorXN05
import Derived.Test.YtlgmanbilaminaaGreatDoorXN06
import Derived.Test.YtlgmanbilaminaaGreatDoorXN07
import Derived.Test.YtlgmanbilaminaaGreatDoorXN08
import Derived.Test.YtlgmanbilaminaaGreatDoorXN09
import Derived.Test.YtlgmanbilaminaaGreatDoorXN11
import Derived.Test.YtlgmanbilaminaaGreatDoorXN12
import Derived.Test.YtlgmanbilaminaaGreatDoorXN13
import Derived.Test.YtlgmanbilaminaaGreatDoorXN14
import Derived.Test.YtlgmanbilaminaaGreatDoorXN15
import Derived.Test.YtlgmanbilaminaaGreatDoorProg
import Derived.WalkKit
import Derived.WalkSpells
import Derived.WalkLawsBesides
import Derived.Lib.Hide
import Derived.Deep.QuietTactic
import Derived.BigQuiet
import Derived.Laws.Rows
import Derived.OwnWalk
import Derived.Lib.BufferWrite
import Derived.Lib.UnsafeStr
import Derived.Laws.IdiomStrings
import Derived.Laws.BytesArg
import Derived.Laws.BytesString
import Derived.Laws.OwnMore
import Derived.Lib.IndexLaws
import Derived.Lib.ItoaNum
import Derived.Lib.Atoi
import Derived.Lib.Bytealg
import Derived.Maps.OwnSet
import Derived.Maps.Range
import Derived.Shelf.Abstract
import Derived.DeepKeys4
import Derived.Handy
import Derived.RangeFuncNested
import Derived.RangeFuncBound
import Derived.RangeFuncCalls
import Derived.RangeFuncLeaves
import Derived.Shelf.RegionOpen
import Derived.OwnWalkIn
import Derived.Lib.SlTrimSet
import Derived.Shelf.Strings.Builder1
import Derived.Shelf.Strings.Builder2
import Derived.Shelf.Strings.OnBuilder
import Derived.Shelf.Strings.Trim
import Derived.Shelf.Small.Utf8
import Derived.Shelf.Small.Bits
import Derived.Shelf.Small.Strs
import Derived.Shelf.Small.Wraps
import Derived.Shelf.Strings.BuilderF
import Derived.Shelf.Strings.BuilderK
import Derived.Shelf.Strings.Builder2Cap
import Derived.Shelf.Strconv.Atoi
import Derived.Shelf.Strconv.Itoa0
import Derived.Shelf.Strconv.Itoa1
import Derived.Shelf.LaysM
import Derived.Shelf.Strconv.Itoa2
import Derived.Shelf.Strconv.Itoa3
import Derived.Shelf.Strconv.AtoiErrFast
import Derived.Shelf.Strconv.ParseIntEmpty
import Derived.Shelf.Strconv.AtoiFail
import Derived.Shelf.Strconv.Clone
import Derived.Shelf.Strconv.SyntaxError
import Derived.Shelf.LaysC
import Derived.Shelf.Strconv.ToError
import Derived.Shelf.Strconv.AtoiErr
import Derived.Shelf.Strings.Search1
import Derived.Shelf.Strings.Search2
import Derived.Shelf.Strings.Search3
import Derived.Shelf.Strings.Cut
import Derived.Shelf.Strings.Shaped
import Derived.Shelf.Strings.Prefix
import Derived.Shelf.Strings.Runes
import Derived.Shelf.Strings.AsciiSet
import Derived.Shelf.Bits.Mul64
import Derived.Shelf.Strings.Repeat
import Derived.Shelf.Unicode.DecodeSlow
import Derived.Shelf.Strings.BuilderCap
import Derived.Shelf.Slices.Turned
import Derived.Ground.Names2Prog
import Derived.Shelf.Slices.Clone
import Derived.Ground.SlsfProg
import Derived.Shelf.SlSortCmp.Insertion
import Derived.Shelf.SlSortCmp.SiftDown1
import Derived.Shelf.SlSortCmp.HeapSort1
import Derived.Shelf.SlSortCmp.Insertion1
import Derived.Shelf.SlSortCmp.Median1
import Derived.Shelf.SlSortCmp.Pivot1
import Derived.Shelf.SlSortCmp.ReverseRange1
import Derived.Shelf.SlSortCmp.PartialInsertion1
import Derived.Shelf.SlSortCmp.PartitionEqual1
import Derived.Shelf.SlSortCmp.Partition1
import Derived.Shelf.SlSortCmp.Pdq1
import Derived.Shelf.SlSortCmp.Whole1
import Derived.Shelf.SlSortCmp.NoneTotal
import Derived.Shelf.Strings.SlTrimAscii
import Derived.Lib.AtoiErrMem
import Derived.Laws.ResultCell
import Derived.RegionTactic
import Derived.Lib.Repeat
import Derived.Deep.RegionHeld3
import Derived.Lib.SlicesS
import Derived.TacticsInMore
import Derived.LoopNIn
import Derived.LoopIn
import Derived.Laws.BitsAllLaws
import Derived.Laws.BitsLemmas
import Derived.Deep.MidRow
import Derived.Deep.DeepCutAuto
import Derived.Lib.Join
import Derived.Laws.Concat
import Derived.Maps.OwnOps
import Derived.Maps.Ext
import Derived.Lib.QuietBelow
import Derived.Shelf.SlGeneric
import Derived.Maps.AppendAt
import Derived.Maps.RangeWalk
import Derived.Sort.KeysCollected
import Derived.Sort.OwnSorted
set_option linter.unusedVariables false
namespace Go.Proofs.YtlgmanbilaminaaGreatDoor.S12
open Go Go.Proofs Go.RowKit Go.Lib Go.Sort Go.Proofs.YtlgmanbilaminaaGreatDoor
open Go.Maps (Keyed string_keyed)
open Go.WideMaps (keyOf_string_mk)
theorem collected_perm {L ss : List Str} {left : Lit → Bool} (hC : Collected (setB L) left ss) (hL : L.Nodup) (hl : ∀ kl, left kl = false) : ss.Perm L := by
  refine (List.perm_ext_iff_of_nodup hC.1 hL).2 fun x => ?_
  rw [hC.2 x, hl, show (Lit.string x) = litS x from rfl, has_setB]
  simp
theorem rowLow {w : World} {e z n B B' : Nat} {v : Value} {xs : List Value} (h : w.ownsRow B e z v n xs) (hB : B' ≤ B) : w.ownsRow B' e z v n xs := by
  obtain ⟨h1, h2⟩ := h
  refine ⟨h1, ?_⟩
  rcases h2 with h2 | ⟨g, cap, cur, hv, hg, r⟩
  · exact .inl h2
  · exact .inr ⟨g, cap, cur, hv, Nat.le_trans hB hg, r⟩
theorem stud_next {wr w2 : World} {r : Nat} {ss L : List Str} {A1 : Option Addr} {c1 cnt cnt2 : Nat} (x : List UInt8) (hrow : S3.StrRow wr (r + 1) (.slice A1 ss.length c1) ss) (hg : wr.grownBy w2 (some r)) (hs2 : w2.heap.size = wr.heap.size) (hrs : r + 1 ≤ wr.heap.size)
    (hcnt : ss.length + cnt ≤ L.length) (hlt : cnt2 < cnt) (hni : L.length ≤ 2199023255552) :
    (w2.alloc (.cells #[encStr x] 9)).ownsRow (r + 1) 9 1 (.slice A1 ss.length c1) ss.length (S3.strVals ss) ∧ (∀ (j : Nat) (u : Value), [encStr x][j]? = some u → (w2.alloc (.cells #[encStr x] 9)).cell? ((⟨w2.heap.size, 0, none⟩ : Addr).add j) = some u) ∧
    ss.length + 1 ≤ maxLen ∧ (ss.length + 1) * 16 ≤ 140737488355328 ∧ r + 1 ≤ (w2.alloc (.cells #[encStr x] 9)).heap.size := by
  refine ⟨World.ownsRow.alloc (World.ownsRow.kept hrow hg ?_) _, one_new w2 _ _, by unfold maxLen; omega, by omega, by simp; omega⟩
  cases A1 with
  | none => exact .inl rfl
  | some a =>
    refine .inr (fun e => ?_)
    have h1 := (World.ownsRow.lt hrow a.block rfl).1
    injection e with e
    omega
theorem stud_row {w2 w5 : World} {r : Nat} {ss : List Str} {v' v : Value} {x : List UInt8} (hown : w5.ownsRow (r + 1) 9 1 v' (ss.length + 1) (S3.strVals ss ++ [encStr x])) : S3.StrRow w5 (r + 1) v' (ss ++ [x]) := by
  unfold S3.StrRow
  rw [List.length_append, List.length_singleton, show S3.strVals (ss ++ [x]) = S3.strVals ss ++ [encStr x] by unfold S3.strVals; rw [List.map_append]; rfl]
  exact hown
structure BW where
  b : Bool
def bwV (x : BW) : Value := .bool x.b
set_option maxHeartbeats 16000000 in
set_option maxRecDepth 100000 in
theorem students_any (A : Option Addr) (l : List ReqD) (c : Nat) (w : World) (h : ReqsIn w (fun k => k < w.heap.size) A l) (hl : l.length ≤ 2199023255552) (hs : ∀ r ∈ l, r.s.length ≤ maxLen) :
    Calls Tryz.prog 18 #[.slice A l.length c] w (S3.RowOut (studM l) w) := by
  have hmm := @run_makeMap Tryz.prog
  obtain ⟨i9, hi9, hz9, hsi9, hby9⟩ := info_parts S3.infoStr
  unfold S3.RowOut
  have hlm : l.length ≤ maxLen := by unfold maxLen; omega
  have HH := hid (fun (w' : World) (hb : Below w.heap.size w w') => h.below hb)
  have HS := hid hs
  have e0 := KStud.made w
  have b0 := (Below.refl w.heap.size w).alloc (Nat.le_refl _) (.map #[] 0)
  have s0 : (w.alloc (.map #[] 0)).heap.size = w.heap.size + 1 := by simp
  have E0 := hid e0
  have B0 := hid b0
  have S0 := hid s0
  have HLM := hid hlm
  have HL := hid hl
  clear h hs e0 b0 s0 hlm hl
  go_enter Tryz.func18, Tryz.ntmps18
  go_wp2_with fail
  generalize w.alloc (.map #[] 0) = wz at E0 B0 S0 ⊢
  clear hmm
  go_loopw [11] (fun iv wr => ∃ i : Nat, iv = .int .i64 (i : Int) ∧ i ≤ l.length ∧ Hid (KStud wr w.heap.size i (studs (l.take i))) ∧ Hid (Below w.heap.size w wr)) (fun iv _ => l.length - (RowKit.intOf iv).toNat)
  case atStart => exact ⟨0, rfl, Nat.zero_le _, hid E0.out, hid B0.out⟩
  case round =>
    obtain ⟨i, rfl, hi, hS, hB⟩ := hrel
    by_cases hlt : i < l.length
    · have hltz : (i : Int) < (l.length : Int) := by omega
      have hib : i + 1 ≤ 2199023255552 := by have := HL.out; omega
      obtain ⟨fb, fo, q, rfl, hfb, hri, y0, y1, y2, y3⟩ := (HH.out _ hB.out).at_ hlt
      have hkey : keyOf Tryz.prog 9 (.string (ba l[i].s)) = some (litS l[i].s) := by
        have := keyOf_string_mk Tryz.underlying9 (s := ba l[i].s) (by rw [Lib.size_eq]; exact HS.out _ (List.getElem_mem hlt))
        exact this
      have hst : studs (l.take (i + 1)) = addS (studs (l.take i)) l[i].s := by rw [List.take_succ_eq_append_getElem hlt, studs_snoc]
      have hbx : ∀ o, Below w.heap.size w (wr.alloc o) := fun o => hB.out.alloc hB.out.size o
      have HST := hid hst
      have HKEY := hid hkey
      have HBX := hid hbx
      obtain ⟨X1, hX1⟩ : ∃ X, ba l[i].s = X := ⟨_, rfl⟩
      rw [hX1] at y0 HKEY
      have HIM : Hid (i < maxLen) := hid (by have := HLM.out; omega)
      clear hst hkey hbx hri hfb hX1
      go_wp2_with (at_mapUpdate; refine wpList_mapUpdate_own _ rfl _ _ _ 81 rfl 9 4 law9 Tryz.underlying81 boolE w.heap.size i (setB (studs (l.take i))) rfl (hS.out.own.alloc _) HIM.out _ _ _ rfl rfl HKEY.out (.lit (.bool true)) [] rfl ?_; intro w4 hown4 hgrow4)
      have HK4 := hid (hS.out.put hown4)
      have HB4 := hid ((HBX.out _).grown hgrow4 (HBX.out _).size (fun k e => by injection e with e; omega))
      clear hown4 hgrow4
      go_wp2_with fail
      go_roundw
      case rel => exact ⟨i + 1, by go_num, by omega, hid (by rw [HST.out]; exact HK4.out), hid HB4.out⟩
      case measure => simp [RowKit.intOf]; omega
    · have hltz : ¬ (i : Int) < (l.length : Int) := by omega
      rw [List.take_of_length_le (by omega)] at hS
      have HNL := hid (studs_len l)
      have HND := hid (studs_nodup l)
      have HMEM : Hid (∀ s ∈ studs l, s.length ≤ maxLen) := hid (fun s hs => by obtain ⟨r, hr, e⟩ := (mem_studs l s).1 hs; rw [← e]; exact HS.out r hr)
      have HU := hid (fun ss => studM_unique (l := l) (ss := ss))
      obtain ⟨L, hL⟩ : ∃ L, studs l = L := ⟨_, rfl⟩
      rw [hL] at hS HNL HND HMEM HU
      clear hL
      go_wp2_with (at_range; refine wpList_range_own _ rfl _ 81 rfl 9 4 law9 Tryz.underlying81 boolE w.heap.size i (setB L) rfl hS.out.own ?_; intro w0 hrg0 hg0 hs0)
      have HB0 := hid (hB.out.grown hg0 hB.out.size (fun k e => by cases e))
      have HRG0 := hid hrg0
      have HS0 := hid hs0
      have hwl := hB.out.size
      have hsz0 : Maps.size (setB L) = L.length := hS.out.sz
      have HSZ0 := hid hsz0
      have HOWN := hid hS.out.own
      have HNI : Hid (L.length ≤ 2199023255552) := hid (by have := HNL.out; have := HL.out; omega)
      obtain ⟨r, hr⟩ : ∃ r, wr.heap.size = r := ⟨_, rfl⟩
      rw [hr] at HRG0 HS0 hwl
      rw [hr]
      clear hrg0 hg0 hs0 hsz0 hr hS hB hltz hi hlt
      try go_frame
      go_loopw [6] (fun v wr => ∃ (left : Lit → Bool) (cnt : Nat) (ss : List Str), Hid (wr.ranges Tryz.prog 9 boolE w.heap.size r i (setB L) left cnt) ∧ Hid (Collected (setB L) left ss) ∧ Hid (S3.StrRow wr (r + 1) v ss) ∧ Hid (Below w.heap.size w wr) ∧ Hid (r + 1 ≤ wr.heap.size) ∧ Hid (ss.length + cnt ≤ L.length)) (fun _ wr => wr.rangeLeft w.heap.size r)
      case atStart => exact ⟨_, _, [], hid HRG0.out, hid (Collected.start _), hid (World.ownsRow_nil _ _ _ _), hid HB0.out, hid (by rw [HS0.out]; exact Nat.le_refl _), hid (by rw [HSZ0.out]; simp)⟩
      case round =>
        obtain ⟨left, cnt, ss, hrg, hC, hrow, hB, hrs, hcnt⟩ := hrel
        obtain ⟨A1, c1, rfl, _, _, _⟩ := hrow.out.strsIn
        go_wp2_with (first
          | (at_next; refine wpList_next_ranges _ rfl _ rfl 9 law9 boolE encStr bwV (fun key kl hk => by obtain ⟨x, hx, _⟩ := Maps.keyOf_str Tryz.underlying9 hk; exact ⟨x, hx⟩) (fun v y hv => by obtain ⟨b, hb, _⟩ := boolE_inv hv; exact ⟨⟨b⟩, hb⟩) w.heap.size r i _ _ _ rfl hrg.out ?_ ?_; intro hc0 hl0; rotate_left; intro x cb kl y w2 cnt2 hkey hlk hv hat hrg2 hlt2 hg2 hs2 hen; have HSN := hid (stud_next x hrow.out hg2 hs2 hrs.out hcnt.out hlt2 HNI.out); have HS2 := hid hs2; have HK2 := hid (And.intro hkey (And.intro hlk hat)); have HR2 := hid hrg2; have HG2 := hid hg2; have HLT := hid hlt2; clear hs2 hkey hlk hat hv hrg2 hg2 hlt2; rotate_left)
          | (at_builtin; refine wpList_append_own_at _ rfl _ _ 40 rfl (r + 1) 9 i9 (.string ⟨#[]⟩) 1 16 Tryz.underlying40 hi9 hz9 hsi9 hby9 rfl (by decide) _ ss.length (S3.strVals ss) rfl HSN.out.1 ⟨w2.heap.size, 0, none⟩ 1 1 [encStr x] rfl rfl HSN.out.2.1 (fun u hu => by rw [List.mem_singleton] at hu; subst hu; rfl) HSN.out.2.2.1 HSN.out.2.2.2.1 HSN.out.2.2.2.2 ?_; intro v' w5 hown' hgrow hnil hat; have HV5 := hid (stud_row (w2 := w2) (v := v') hown'); have HG5 := hid (And.intro hgrow hat); clear hown' hgrow hnil hat))
        · have HP := hid (collected_perm hC.out HND.out hl0)
          have HLN := hid (HP.out.length_eq)
          have cS := fun w' (hb : S3.StrRow w' (r + 1) (.slice A1 ss.length c1) ss) (hs : r + 1 ≤ w'.heap.size) => sortRow_any _ ss (r + 1) w' hb hs (by have := HLN.out; have := HNI.out; omega) (fun s hs => HMEM.out s (HP.out.subset hs))
          have CS := hid (cS wr hrow.out hrs.out)
          clear cS hc0 hl0
          go_wp2_with fail
          refine CS.out.mono ?_
          rintro e w3 ⟨rfl, hrow3, hb3⟩
          have HROW := hid hrow3
          have HB3 := hid (hB.out.trans (hb3.mono (by have := hwl; omega)))
          clear hrow3 hb3
          go_wp2
          go_ret
          refine ⟨⟨_, rfl, ?_⟩, HB3.out⟩
          have hu := HU.out (ss.mergeSort leS) ((List.mergeSort_perm _ _).trans HP.out) (List.pairwise_mergeSort leS_trans leS_total _)
          rw [hu] at HROW
          have h1 := HROW.out
          have h2 : (studM l).length = ss.length := by rw [← hu, List.length_mergeSort]
          unfold S3.StrRow at h1 ⊢
          rw [h2] at h1 ⊢
          exact rowLow h1 (by omega)
        · obtain ⟨hkey, hlk, hat⟩ := HK2.out
          obtain ⟨x', ex, rfl, _⟩ := Maps.keyOf_str Tryz.underlying9 hkey
          obtain rfl : x = x' := encStr_inj ex
          have hC2 := hC.out.step hlk hat
          have HC2 := hid hC2
          have hlow : ∀ k, (Value.slice A1 ss.length c1).ownBlock = some k → r + 1 ≤ k := fun k e => (World.ownsRow.lt hrow.out k e).1
          have hgr := grownBy_of_alloc HG5.out.1
          have hR5 : w5.ranges Tryz.prog 9 boolE w.heap.size r i (setB L) (fun z => left z && !z.sameKey (.string x)) cnt2 := HR2.out.kept hgr (fun e => by have := hlow _ e.symm; omega) (fun e => by have := hlow _ e.symm; omega)
          have hB5 : Below w.heap.size w w5 := (hB.out.grown HG2.out (by have := hrs.out; omega) (fun k e => by injection e with e; omega)).grown hgr (by have := hrs.out; have := HS2.out; omega) (fun k e => by have := hlow _ e; omega)
          have hz5 : r + 1 ≤ w5.heap.size := Nat.le_trans (by have := hrs.out; have := HS2.out; omega) hgr.size
          have HE1 := hid (HR2.out.left_eq)
          go_roundw
          case rel => exact ⟨_, cnt2, ss ++ [x], hid hR5, HC2, HV5, hid hB5, hid hz5, hid (by have := hcnt.out; have := HLT.out; simp; omega)⟩
          case measure =>
            rw [hR5.left_eq, hrg.out.left_eq]
            exact HLT.out
end Go.Proofs.YtlgmanbilaminaaGreatDoor.S12
