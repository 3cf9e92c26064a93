/-
  The records of requests by the specification: Write, with what lets its rows be changed. Conditions: the requests lie in memory. The records of requests by the .. Conditions: as stated.
-/
import Derived.Test.YtlgmanbilaminaaGreatDoorXN01
import Derived.Test.YtlgmanbilaminaaGreatDoorXN02
import Derived.Test.YtlgmanbilaminaaGreatDoorXN03
import Derived.Test.YtlgmanbilaminaaGreatDoorXN04
import Derived.Test.YtlgmanbilaminaaGreatDoorXN05
import Derived.Test.YtlgmanbilaminaaGreatDoorXN06
import Derived.Test.YtlgmanbilaminaaGreatDoorXN07
import Derived.Test.YtlgmanbilaminaaGreatDoorXN08
import Derived.Test.YtlgmanbilaminaaGreatDoorXN09
import Derived.Test.YtlgmanbilaminaaGreatDoorXN10
import Derived.Test.YtlgmanbilaminaaGreatDoorXN11
import Derived.Test.YtlgmanbilaminaaGreatDoorXN12
import Derived.Test.YtlgmanbilaminaaGreatDoorXN22
import Derived.Test.YtlgmanbilaminaaGreatDoorXN26
import Derived.Test.YtlgmanbilaminaaGreatDoorXN27
import Derived.Test.YtlgmanbilaminaaGreatDoorXN28
import Derived.Test.YtlgmanbilaminaaGreatDoorXN29
import Derived.Test.YtlgmanbilaminaaGreatDoorProg
import Derived.WalkKit
import Derived.WalkSpells
import Derived.WalkLawsBesides
import Derived.Lib.Hide
import Derived.Deep.QuietTactic
import Derived.BigQuiet
import Derived.Laws.Rows
import Derived.OwnWalk
import Derived.Lib.BufferWrite
import Derived.Lib.UnsafeStr
import Derived.Laws.IdiomStrings
import Derived.Laws.BytesArg
import Derived.Laws.BytesString
import Derived.Laws.OwnMore
import Derived.Lib.IndexLaws
import Derived.Lib.ItoaNum
import Derived.Lib.Atoi
import Derived.Lib.Bytealg
import Derived.RangeFuncNested
import Derived.RangeFuncBound
import Derived.RangeFuncCalls
import Derived.RangeFuncLeaves
import Derived.Shelf.Abstract
import Derived.Shelf.RegionOpen
import Derived.OwnWalkIn
import Derived.Lib.SlTrimSet
import Derived.Shelf.Strings.Builder1
import Derived.Shelf.Strings.Builder2
import Derived.Shelf.Strings.OnBuilder
import Derived.Shelf.Strings.Trim
import Derived.Shelf.Small.Utf8
import Derived.Shelf.Small.Bits
import Derived.Shelf.Small.Strs
import Derived.Shelf.Small.Wraps
import Derived.Shelf.Strings.BuilderF
import Derived.Shelf.Strings.BuilderK
import Derived.Shelf.Strings.Builder2Cap
import Derived.Shelf.Strconv.Atoi
import Derived.Shelf.Strconv.Itoa0
import Derived.Shelf.Strconv.Itoa1
import Derived.Shelf.LaysM
import Derived.Shelf.Strconv.Itoa2
import Derived.Shelf.Strconv.Itoa3
import Derived.Shelf.Strconv.AtoiErrFast
import Derived.Shelf.Strconv.ParseIntEmpty
import Derived.Shelf.Strconv.AtoiFail
import Derived.Shelf.Strconv.Clone
import Derived.Shelf.Strconv.SyntaxError
import Derived.Shelf.LaysC
import Derived.Shelf.Strconv.ToError
import Derived.Shelf.Strconv.AtoiErr
import Derived.Shelf.Strings.Search1
import Derived.Shelf.Strings.Search2
import Derived.Shelf.Strings.Search3
import Derived.Shelf.Strings.Cut
import Derived.Shelf.Strings.Shaped
import Derived.Shelf.Strings.Prefix
import Derived.Shelf.Strings.Runes
import Derived.Shelf.Strings.AsciiSet
import Derived.Shelf.Bits.Mul64
import Derived.Shelf.Strings.Repeat
import Derived.Shelf.Unicode.DecodeSlow
import Derived.Shelf.Strings.BuilderCap
import Derived.Shelf.Slices.Turned
import Derived.Ground.Names2Prog
import Derived.Shelf.Slices.Clone
import Derived.Ground.SlsfProg
import Derived.Shelf.SlSortCmp.Insertion
import Derived.Shelf.SlSortCmp.SiftDown1
import Derived.Shelf.SlSortCmp.HeapSort1
import Derived.Shelf.SlSortCmp.Insertion1
import Derived.Shelf.SlSortCmp.Median1
import Derived.Shelf.SlSortCmp.Pivot1
import Derived.Shelf.SlSortCmp.ReverseRange1
import Derived.Shelf.SlSortCmp.PartialInsertion1
import Derived.Shelf.SlSortCmp.PartitionEqual1
import Derived.Shelf.SlSortCmp.Partition1
import Derived.Shelf.SlSortCmp.Pdq1
import Derived.Shelf.SlSortCmp.Whole1
import Derived.Shelf.SlSortCmp.NoneTotal
import Derived.Shelf.Strings.SlTrimAscii
import Derived.Lib.AtoiErrMem
import Derived.Handy
import Derived.Laws.ResultCell
import Derived.RegionTactic
import Derived.Lib.Repeat
import Derived.Deep.RegionHeld3
import Derived.Lib.SlicesS
import Derived.TacticsInMore
import Derived.LoopNIn
import Derived.LoopIn
import Derived.Laws.BitsAllLaws
import Derived.Laws.BitsLemmas
import Derived.Deep.MidRow
import Derived.Deep.DeepCutAuto
import Derived.Lib.Join
import Derived.Laws.Concat
import Derived.Deep.RegionLaw
import Derived.StillTailTactics
import Derived.Maps.AppendAt
import Derived.Laws.AppendOwn
import Derived.Deep.AppendLies
import Derived.Lib.AppendZerosOnto
import Derived.Lib.SliceRun
import Derived.Deep.LoopGhost
import Derived.Maps.OwnSet
import Derived.Maps.Range
import Derived.DeepKeys4
import Derived.Maps.OwnOps
import Derived.Maps.Ext
import Derived.Lib.AppendIntMem
import Derived.RangeFuncBox
import Derived.Deep.CutBlock
import Derived.IntWalk
import Derived.OneCell
import Derived.Laws.Tables
import Derived.Laws.CopyOwn
import Derived.OrdersHeld
set_option linter.unusedVariables false
namespace Go.Proofs.YtlgmanbilaminaaGreatDoor.S12
open Go Go.Proofs Go.RowKit Go.Lib Go.Proofs.YtlgmanbilaminaaGreatDoor Go.Proofs.YtlgmanbilaminaaGreatDoor.S10 Go.Proofs.YtlgmanbilaminaaGreatDoor.S11
structure WQ4 (w0 : World) (fb o : Nat) (v0 v1 v2 : Value) (W : World) : Prop where
  b : Below w0.heap.size w0 W
  c0 : W.cell? ⟨fb, o, none⟩ = some v0
  c1 : W.cell? ⟨fb, o + 1, none⟩ = some v1
  c2 : W.cell? ⟨fb, o + 2, none⟩ = some v2
  z : fb < w0.heap.size
section
variable {w0 W W' : World} {fb o : Nat} {v0 v1 v2 : Value}
theorem WQ4.under (h : WQ4 w0 fb o v0 v1 v2 W) (k : Below w0.heap.size W W') : WQ4 w0 fb o v0 v1 v2 W' :=
  ⟨h.b.trans k, (k.cell (p := ⟨fb, o, none⟩) h.z).trans h.c0, (k.cell (p := ⟨fb, o + 1, none⟩) h.z).trans h.c1, (k.cell (p := ⟨fb, o + 2, none⟩) h.z).trans h.c2, h.z⟩
theorem WQ4.next (h : WQ4 w0 fb o v0 v1 v2 W) (k : Below W.heap.size W W') : WQ4 w0 fb o v0 v1 v2 W' := h.under (k.mono h.b.size)
theorem WQ4.grown (h : WQ4 w0 fb o v0 v1 v2 W) {row : Option Nat} (hg : W.grownBy W' row) (hr : ∀ k, row = some k → w0.heap.size ≤ k) : WQ4 w0 fb o v0 v1 v2 W' := h.under ((Below.refl _ W).grown hg h.b.size hr)
end
set_option maxHeartbeats 16000000 in
set_option maxRecDepth 100000 in
theorem qrwriteF_any (A : Option Addr) (l : List ReqD) (c : Nat) (w : World) (h : ReqsIn w (fun k => k < w.heap.size) A l) :
    Calls Tryz.prog 9 #[.slice A l.length c] w (WriteOutF (writeQ l) w) := by
  obtain ⟨iS, hiS, hzS, hsS, hbS⟩ := info_parts infoStrs7
  unfold WriteOutF writeQ
  have cV := qrvalid_any A l c w h
  unfold Says at cV
  obtain ⟨R, hR⟩ : ∃ R, validQ l = R := ⟨_, rfl⟩
  rw [hR] at cV ⊢
  have CV := hid cV
  have HH := hid (fun (w' : World) (hb : Below w.heap.size w w') => h.below hb)
  clear h cV
  by_cases hR0 : R = 0
  · subst hR0
    obtain ⟨h16, hok⟩ := validQ_ok hR
    have HOK := hid hok
    rw [if_neg (by simp)]
    clear hR hok
    go_enter Tryz.func9, Tryz.ntmps9
    go_wp2_with fail
    refine CV.out.mono ?_
    rintro e w1 ⟨rfl, hb⟩
    have HB1 := hid hb
    clear hb CV
    go_wp2
    go_loopw [5, 6] (fun v iv wr => ∃ (i : Nat) (L : List RowA), iv = .int .i64 (i : Int) ∧ i ≤ l.length ∧ Hid (L.map (·.1) = (l.take i).map rowQ) ∧ Hid (RowsF wr w.heap.size v L) ∧ Hid (Below w.heap.size w wr)) (fun _ iv _ => l.length - (RowKit.intOf iv).toNat)
    case atStart => exact ⟨0, [], rfl, Nat.zero_le _, hid rfl, hid (RowsF.nil _ _), HB1⟩
    case round =>
      clear HB1
      obtain ⟨i, L, rfl, hi, hL, hrow, hB⟩ := hrel
      obtain ⟨Ar, cr, hvr, _⟩ := hrow.out.1.rowsIn
      subst hvr
      have hLl : L.length = i := by
        have := congrArg List.length hL.out
        rw [List.length_map, List.length_map, List.length_take] at this
        omega
      have HLL := hid hLl
      clear hLl
      by_cases hlt : i < l.length
      · have hltz : (i : Int) < (l.length : Int) := by omega
        have dk : decide (l.length ≤ i) = false := decide_eq_false (by omega)
        obtain ⟨fb, fo, ⟨A2, c2⟩, rfl, hfb, hri, y0, y1, y2, y3⟩ := (HH.out _ hB.out).at_ hlt
        have hroom := reqM_all (HOK.out _ (List.getElem_mem hlt))
        have hck := (check_tail hroom.2.2.2.2.2).1
        have hst : (l.take (i + 1)).map rowQ = L.map (·.1) ++ [rowQ l[i]] := by rw [hL.out, List.take_succ_eq_append_getElem hlt, List.map_append]; rfl
        have cJ := S3.rjoin_any A2 l[i].l c2 wr (hri.t.mono (fun k hk => Nat.lt_of_lt_of_le hk hB.out.size)) hri.t1 hri.t2
        unfold S3.JoinOut at cJ
        rw [if_pos hck, hck] at cJ
        have cD := fun W => rdec4_any l[i].p (by omega) (by omega) W
        unfold Says at cD
        obtain ⟨⟨st, co, pr, ts⟩, hr⟩ : ∃ r, l[i] = r := ⟨_, rfl⟩
        rw [hr] at y0 y1 y2 y3 cJ hst
        simp only [hr] at cD
        dsimp only at y0 y1 y2 y3 cJ
        have hrw : rowQ ⟨st, co, pr, ts⟩ = [st, co, decDigits pr.toNat, S3.joinM ts] := rfl
        obtain ⟨RW, hRW⟩ : ∃ r, rowQ ⟨st, co, pr, ts⟩ = r := ⟨_, rfl⟩
        rw [hRW] at hst hrw
        obtain ⟨X1, hX1⟩ : ∃ X, ba st = X := ⟨_, rfl⟩
        obtain ⟨X2, hX2⟩ : ∃ X, ba co = X := ⟨_, rfl⟩
        obtain ⟨X3, hX3⟩ : ∃ X, ba (decDigits pr.toNat) = X := ⟨_, rfl⟩
        obtain ⟨X4, hX4⟩ : ∃ X, S3.ba (S3.joinM ts) = X := ⟨_, rfl⟩
        have hrs : S3.strVals RW = [.string X1, .string X2, .string X3, .string X4] := by rw [hrw, ← hX1, ← hX2, ← hX3, ← hX4]; rfl
        have hr2 : RW.length = 4 := by rw [hrw]; rfl
        obtain ⟨T1, hT1⟩ : ∃ F, ts.length = F := ⟨_, rfl⟩
        rw [hX1] at y0
        rw [hX2] at y1
        rw [hX4] at cJ
        simp only [hX3] at cD
        rw [hT1] at y3 cJ
        have hk0 : WQ4 w fb (fo + i * 4) (.string X1) (.string X2) (.int .i64 pr) wr := ⟨hB.out, y0, y1, y2, hfb⟩
        have HK0 := hid hk0
        have CJ := hid cJ
        have CD := hid cD
        have HST := hid hst
        have HRS := hid hrs
        have HR2 := hid hr2
        clear hr hRW hX1 hX2 hX3 hX4 hT1 cJ cD hst hri hroom hck hrw hrs hr2 y0 y1 y2 hk0
        go_wp2_with fail
        refine CJ.out.mono ?_
        rintro e w2 ⟨rfl, hb2⟩
        have HK2 := hid (HK0.out.next hb2)
        have HB2 := hid hb2
        clear hb2 CJ y3 HK0
        go_upto_region 9 with fail
        refine wp_region_held_drew (S := WQ4 w fb (fo + i * 4) (.string X1) (.string X2) (.int .i64 pr)) (by kernel_rfl) (HK2.out.next (Below.refl _ _).drew) (fun hHeld => ?_)
        have HBW : Hid (Below wr.heap.size wr w2.drew) := hid (HB2.out.trans (Below.refl _ _).drew)
        generalize w2.drew = wd at hHeld HBW ⊢
        (refine wpAnyH_take (i := 0) (oi := _) (v := ?_) rfl (by kernel_rfl) (by kernel_rfl) (by decide +kernel) (fun _ _ _ h => h) (Or.inl ⟨by rfl, ?_⟩) (by assumption) ?_; rotate_left; (intro wS hSw; skip; (try simp only [List.getElem_toArray, List.getElem_cons_zero]); go_simp; (try with_reducible rfl)))
        (try simp only [List.getElem_toArray, List.getElem_cons_zero, Act.put, List.setIfInBounds_toArray, List.set_cons_zero, List.set_cons_succ])
        (refine wpAnyH_take (i := 1) (oi := _) (v := ?_) rfl (by kernel_rfl) (by kernel_rfl) (by decide +kernel) (fun _ _ _ h => h) (Or.inl ⟨by rfl, ?_⟩) (by assumption) ?_; rotate_left; (intro wS hSw; skip; (try simp only [List.getElem_toArray, List.getElem_cons_succ, List.getElem_cons_zero]); go_simp; (try with_reducible rfl)))
        (try simp only [List.getElem_toArray, List.getElem_cons_succ, List.getElem_cons_zero, Act.put, List.setIfInBounds_toArray, List.set_cons_zero, List.set_cons_succ])
        (refine wpAnyH_take (i := 2) (oi := _) (v := ?_) rfl (by kernel_rfl) (by kernel_rfl) (by decide +kernel) (fun _ _ _ h => h) (Or.inl ⟨by rfl, ?_⟩) (by assumption) ?_; rotate_left; (intro wS hSw; skip; (try simp only [List.getElem_toArray, List.getElem_cons_succ, List.getElem_cons_zero]); go_simp; (try with_reducible rfl)))
        (try simp only [List.getElem_toArray, List.getElem_cons_succ, List.getElem_cons_zero, Act.put, List.setIfInBounds_toArray, List.set_cons_zero, List.set_cons_succ])
        (refine wpAnyH_take (i := 3) (oi := _) (v := ?_) rfl (by kernel_rfl) (by kernel_rfl) (by decide +kernel) (fun _ _ _ h => h) (Or.inl ⟨by rfl, ?_⟩) (by assumption) ?_; rotate_left; (intro wS hSw; skip; (try simp only [List.getElem_toArray, List.getElem_cons_succ, List.getElem_cons_zero]); go_simp; (try with_reducible rfl)))
        (try simp only [List.getElem_toArray, List.getElem_cons_succ, List.getElem_cons_zero, Act.put, List.setIfInBounds_toArray, List.set_cons_zero, List.set_cons_succ])
        (refine wpAnyH_take (i := 4) (oi := _) (v := ?_) rfl (by kernel_rfl) (by kernel_rfl) (by decide +kernel) (fun _ _ _ h => h) (Or.inl ⟨by rfl, ?_⟩) (by assumption) ?_; rotate_left; (intro wS hSw; skip; (try simp only [List.getElem_toArray, List.getElem_cons_succ, List.getElem_cons_zero]); go_simp; (try with_reducible rfl)))
        (try simp only [List.getElem_toArray, List.getElem_cons_succ, List.getElem_cons_zero, Act.put, List.setIfInBounds_toArray, List.set_cons_zero, List.set_cons_succ])
        (refine wpAnyH_take (i := 5) (oi := _) (v := ?_) rfl (by kernel_rfl) (by kernel_rfl) (by decide +kernel) (fun _ _ _ h => h) (Or.inl ⟨by rfl, ?_⟩) (by assumption) ?_; rotate_left; (intro wS hSw; have a0 := hSw.c0; (try simp only [List.getElem_toArray, List.getElem_cons_succ, List.getElem_cons_zero]); go_simp; (try with_reducible rfl)))
        (try simp only [List.getElem_toArray, List.getElem_cons_succ, List.getElem_cons_zero, Act.put, List.setIfInBounds_toArray, List.set_cons_zero, List.set_cons_succ])
        (refine wpAnyH_take (i := 6) (oi := _) (v := ?_) rfl (by kernel_rfl) (by kernel_rfl) (by decide +kernel) (fun _ _ _ h => h) (Or.inl ⟨by rfl, ?_⟩) (by assumption) ?_; rotate_left; (intro wS hSw; skip; (try simp only [List.getElem_toArray, List.getElem_cons_succ, List.getElem_cons_zero]); go_simp; (try with_reducible rfl)))
        (try simp only [List.getElem_toArray, List.getElem_cons_succ, List.getElem_cons_zero, Act.put, List.setIfInBounds_toArray, List.set_cons_zero, List.set_cons_succ])
        (refine wpAnyH_take (i := 7) (oi := _) (v := ?_) rfl (by kernel_rfl) (by kernel_rfl) (by decide +kernel) (fun _ _ _ h => h) (Or.inl ⟨by rfl, ?_⟩) (by assumption) ?_; rotate_left; (intro wS hSw; skip; (try simp only [List.getElem_toArray, List.getElem_cons_succ, List.getElem_cons_zero]); go_simp; (try with_reducible rfl)))
        (try simp only [List.getElem_toArray, List.getElem_cons_succ, List.getElem_cons_zero, Act.put, List.setIfInBounds_toArray, List.set_cons_zero, List.set_cons_succ])
        (refine wpAnyH_take (i := 8) (oi := _) (v := ?_) rfl (by kernel_rfl) (by kernel_rfl) (by decide +kernel) (fun _ _ _ h => h) (Or.inl ⟨by rfl, ?_⟩) (by assumption) ?_; rotate_left; (intro wS hSw; skip; (try simp only [List.getElem_toArray, List.getElem_cons_succ, List.getElem_cons_zero]); go_simp; (try with_reducible rfl)))
        (try simp only [List.getElem_toArray, List.getElem_cons_succ, List.getElem_cons_zero, Act.put, List.setIfInBounds_toArray, List.set_cons_zero, List.set_cons_succ])
        (refine wpAnyH_take (i := 9) (oi := _) (v := ?_) rfl (by kernel_rfl) (by kernel_rfl) (by decide +kernel) (fun _ _ _ h => h) (Or.inl ⟨by rfl, ?_⟩) (by assumption) ?_; rotate_left; (intro wS hSw; skip; (try simp only [List.getElem_toArray, List.getElem_cons_succ, List.getElem_cons_zero]); go_simp; (try with_reducible rfl)))
        (try simp only [List.getElem_toArray, List.getElem_cons_succ, List.getElem_cons_zero, Act.put, List.setIfInBounds_toArray, List.set_cons_zero, List.set_cons_succ])
        (refine wpAnyH_take (i := 10) (oi := _) (v := ?_) rfl (by kernel_rfl) (by kernel_rfl) (by decide +kernel) (fun _ _ _ h => h) (Or.inl ⟨by rfl, ?_⟩) (by assumption) ?_; rotate_left; (intro wS hSw; have a1 := hSw.c1; (try simp only [List.getElem_toArray, List.getElem_cons_succ, List.getElem_cons_zero]); go_simp; (try with_reducible rfl)))
        (try simp only [List.getElem_toArray, List.getElem_cons_succ, List.getElem_cons_zero, Act.put, List.setIfInBounds_toArray, List.set_cons_zero, List.set_cons_succ])
        (refine wpAnyH_take (i := 11) (oi := _) (v := ?_) rfl (by kernel_rfl) (by kernel_rfl) (by decide +kernel) (fun _ _ _ h => h) (Or.inl ⟨by rfl, ?_⟩) (by assumption) ?_; rotate_left; (intro wS hSw; skip; (try simp only [List.getElem_toArray, List.getElem_cons_succ, List.getElem_cons_zero]); go_simp; (try with_reducible rfl)))
        (try simp only [List.getElem_toArray, List.getElem_cons_succ, List.getElem_cons_zero, Act.put, List.setIfInBounds_toArray, List.set_cons_zero, List.set_cons_succ])
        (refine wpAnyH_take (i := 12) (oi := _) (v := ?_) rfl (by kernel_rfl) (by kernel_rfl) (by decide +kernel) (fun _ _ _ h => h) (Or.inl ⟨by rfl, ?_⟩) (by assumption) ?_; rotate_left; (intro wS hSw; skip; (try simp only [List.getElem_toArray, List.getElem_cons_succ, List.getElem_cons_zero]); go_simp; (try with_reducible rfl)))
        (try simp only [List.getElem_toArray, List.getElem_cons_succ, List.getElem_cons_zero, Act.put, List.setIfInBounds_toArray, List.set_cons_zero, List.set_cons_succ])
        (refine wpAnyH_take (i := 13) (oi := _) (v := ?_) rfl (by kernel_rfl) (by kernel_rfl) (by decide +kernel) (fun _ _ _ h => h) (Or.inl ⟨by rfl, ?_⟩) (by assumption) ?_; rotate_left; (intro wS hSw; skip; (try simp only [List.getElem_toArray, List.getElem_cons_succ, List.getElem_cons_zero]); go_simp; (try with_reducible rfl)))
        (try simp only [List.getElem_toArray, List.getElem_cons_succ, List.getElem_cons_zero, Act.put, List.setIfInBounds_toArray, List.set_cons_zero, List.set_cons_succ])
        (refine wpAnyH_take (i := 14) (oi := _) (v := ?_) rfl (by kernel_rfl) (by kernel_rfl) (by decide +kernel) (fun _ _ _ h => h) (Or.inl ⟨by rfl, ?_⟩) (by assumption) ?_; rotate_left; (intro wS hSw; skip; (try simp only [List.getElem_toArray, List.getElem_cons_succ, List.getElem_cons_zero]); go_simp; (try with_reducible rfl)))
        (try simp only [List.getElem_toArray, List.getElem_cons_succ, List.getElem_cons_zero, Act.put, List.setIfInBounds_toArray, List.set_cons_zero, List.set_cons_succ])
        (refine wpAnyH_take (i := 15) (oi := _) (v := ?_) rfl (by kernel_rfl) (by kernel_rfl) (by decide +kernel) (fun _ _ _ h => h) (Or.inl ⟨by rfl, ?_⟩) (by assumption) ?_; rotate_left; (intro wS hSw; have a2 := hSw.c2; (try simp only [List.getElem_toArray, List.getElem_cons_succ, List.getElem_cons_zero]); go_simp; (try with_reducible rfl)))
        (try simp only [List.getElem_toArray, List.getElem_cons_succ, List.getElem_cons_zero, Act.put, List.setIfInBounds_toArray, List.set_cons_zero, List.set_cons_succ])
        (refine wpAnyH_take (i := 17) (oi := _) (v := ?_) rfl (by kernel_rfl) (by kernel_rfl) (by decide +kernel) (fun _ _ _ h => h) (Or.inl ⟨by rfl, ?_⟩) (by assumption) ?_; rotate_left; (intro wS hSw; skip; (try simp only [List.getElem_toArray, List.getElem_cons_succ, List.getElem_cons_zero]); go_simp; (try with_reducible rfl)))
        (try simp only [List.getElem_toArray, List.getElem_cons_succ, List.getElem_cons_zero, Act.put, List.setIfInBounds_toArray, List.set_cons_zero, List.set_cons_succ])
        (refine wpAnyH_ready (rs := [16]) (by kernel_rfl) (by simp) ?_; refine AllReadyH.cons (o := _) rfl (fun K hK => ?_) AllReadyH.nil; (try simp only [List.getElem_toArray, List.getElem_cons_succ, List.getElem_cons_zero]); go_simp; go_at_call 37; refine (CD.out _).mono ?_; rintro e w4 ⟨rfl, hb4⟩; have hHeld := hHeld.next hb4; have HB4 := hid (HBW.out.trans (hb4.mono HBW.out.size)); have HK4 := hid hHeld; have hrow4 : w4.ownsRow w.heap.size 40 1 (.slice Ar L.length cr) L.length (L.map rowV) := row_under hrow.out.1.1 HB4.out; have HRow4 := hid hrow4; have HC3 : Hid (L.length + 1 ≤ maxLen) := (by unfold maxLen; exact hid (by have := HLL.out; omega)); have HC4 : Hid ((L.length + 1) * 24 ≤ 140737488355328) := hid (by have := HLL.out; omega); clear hb4 hrow4; go_wp2_with fail; refine hK.out _ _ hHeld (fun hHeld => ?_); clear hK K)
        (try simp only [List.getElem_toArray, List.getElem_cons_succ, List.getElem_cons_zero, Act.put, List.setIfInBounds_toArray, List.set_cons_zero, List.set_cons_succ])
        (refine wpAnyH_ready (rs := [18]) (by kernel_rfl) (by simp) ?_; refine AllReadyH.cons (o := _) rfl (fun K hK => ?_) AllReadyH.nil; (try simp only [List.getElem_toArray, List.getElem_cons_succ, List.getElem_cons_zero]); go_simp; go_wp2_with fail; refine hK.out _ _ (hHeld.next ((Below.refl _ _).alloc (Nat.le_refl _) _)) (fun hHeld => ?_); clear hK K)
        (try simp only [List.getElem_toArray, List.getElem_cons_succ, List.getElem_cons_zero, Act.put, List.setIfInBounds_toArray, List.set_cons_zero, List.set_cons_succ])
        (refine wpAnyH_ready (rs := [19]) (by kernel_rfl) (by simp) ?_; refine AllReadyH.cons (o := _) rfl (fun K hK => ?_) AllReadyH.nil; (try simp only [List.getElem_toArray, List.getElem_cons_succ, List.getElem_cons_zero]); go_simp; go_wp2_with fail; refine hK.out _ _ (hHeld.next ((Below.refl _ _).alloc (Nat.le_refl _) _)) (fun hHeld => ?_); clear hK K)
        (try simp only [List.getElem_toArray, List.getElem_cons_succ, List.getElem_cons_zero, Act.put, List.setIfInBounds_toArray, List.set_cons_zero, List.set_cons_succ])
        (refine wpAnyH_ready (rs := [20]) (by kernel_rfl) (by simp) ?_; refine AllReadyH.cons (o := _) rfl (fun K hK => ?_) AllReadyH.nil; (try simp only [List.getElem_toArray, List.getElem_cons_succ, List.getElem_cons_zero]); refine step_append_lies (a := { tmps := _, defers := _ }) _ (by rfl) _ _ _ (by rfl) w.heap.size 40 iS (.slice none 0 0) 1 24 Tryz.underlying28 hiS hzS hsS hbS rfl (by decide) (.slice Ar L.length cr) L.length (L.map rowV) (by rfl) (World.ownsRow.alloc (World.ownsRow.alloc HRow4.out _) _) ⟨w4.heap.size + 1, 0, none⟩ 1 1 [.slice (some ⟨w4.heap.size, 0, none⟩) 4 4] (by rfl) (by rfl) (by have := one_new (w4.alloc (.cells #[.string X1, .string X2, .string X3, .string X4] 9)) (.slice (some ⟨w4.heap.size, 0, none⟩) 4 4) 40; simpa using this) (one_slice _ _ _) (by decide) HC3.out HC4.out (by have := HK4.out.b.size; simp; omega) (w4.heap.size + 1 + 1) (by simp) ?_; intro g7 cap7 w7 hown7 hgrow7 hat7 hlt7; have hHeld := hHeld.grown hgrow7 (fun k hk => (World.ownsRow.lt HRow4.out k hk).1); have HOWN := hid hown7; have HGR := hid hgrow7; have HAT := hid hat7; clear hown7 hgrow7 hat7; refine hK.out _ _ hHeld (fun hHeld => ?_); clear hK K)
        (try simp only [Act.put, List.setIfInBounds_toArray, List.set_cons_zero, List.set_cons_succ])
        (refine wpAnyH_take (i := 21) (oi := _) (v := ?_) rfl (by kernel_rfl) (by kernel_rfl) (by decide +kernel) (fun _ _ _ h => h) (Or.inl ⟨by rfl, ?_⟩) (by assumption) ?_; rotate_left; (intro wS hSw; skip; (try simp only [List.getElem_toArray, List.getElem_cons_succ, List.getElem_cons_zero]); go_simp; (try with_reducible rfl)))
        (try simp only [List.getElem_toArray, List.getElem_cons_succ, List.getElem_cons_zero, Act.put, List.setIfInBounds_toArray, List.set_cons_zero, List.set_cons_succ])
        refine wpAnyH_done (by kernel_rfl) ?_ _
        have hin : S3.StrRow (w4.alloc (.cells #[.string X1, .string X2, .string X3, .string X4] 9)) w4.heap.size (.slice (some ⟨w4.heap.size, 0, none⟩) RW.length 4) RW := by
          unfold S3.StrRow
          rw [HRS.out, HR2.out]
          exact World.ownsRow_lit w4 #[.string X1, .string X2, .string X3, .string X4] 4 (Nat.le_refl _) (by decide) rfl
        have hown7 := HOWN.out
        rw [show (4 : Nat) = RW.length from HR2.out.symm] at hown7
        have hsn := RowsF.snoc (c := 4) hrow.out (Nat.le_trans hB.out.size HB4.out.size) HB4.out ((Below.refl w4.heap.size w4).alloc (Nat.le_refl _) _) hin ((Below.refl _ (w4.alloc (.cells #[.string X1, .string X2, .string X3, .string X4] 9))).alloc (Nat.le_refl _) _) (by rw [HR2.out] at hown7 ⊢; exact hown7) HGR.out (by
          rcases HAT.out with h | h
          · exact .inl h.symm
          · exact .inr (by rw [h]; simp [Value.ownBlock]))
        have HSN := hid hsn
        have HK7 := hid hHeld.b
        have HL2 : Hid ((L ++ [((RW, some ⟨w4.heap.size, 0, none⟩, 4) : RowA)]).map (·.1) = (l.take (i + 1)).map rowQ) := hid (by rw [HST.out, List.map_append]; rfl)
        clear hin hown7 hsn hHeld
        go_wp2
        go_roundw
        case rel => exact ⟨i + 1, L ++ [((RW, some ⟨w4.heap.size, 0, none⟩, 4) : RowA)], by go_num, by omega, HL2, HSN, HK7⟩
        case measure => simp [RowKit.intOf]; omega
      · have hltz : ¬ (i : Int) < (l.length : Int) := by omega
        have hL2 : Hid (L.map (·.1) = l.map rowQ) := hid (by rw [hL.out, List.take_of_length_le (by omega)])
        go_wp2
        go_ret2
        exact ⟨⟨_, L, hL2.out, rfl, hrow.out⟩, hB.out⟩
  · have hR1 : (R != 0) = true := by simpa using hR0
    have hR2 : (R == 0) = false := by simpa using hR0
    rw [if_pos hR0]
    clear hR
    go_enter Tryz.func9, Tryz.ntmps9
    go_wp2_with fail
    refine CV.out.mono ?_
    rintro e w1 ⟨rfl, hb⟩
    have HB1 := hid hb
    clear hb CV
    go_wp2
    go_ret2
    exact ⟨⟨_, [], rfl, rfl, RowsF.nil _ _⟩, HB1.out⟩
end Go.Proofs.YtlgmanbilaminaaGreatDoor.S12
set_option linter.unusedVariables false
namespace Go.Proofs.YtlgmanbilaminaaGreatDoor.S12
open Go Go.Proofs Go.RowKit Go.Lib Go.Proofs.YtlgmanbilaminaaGreatDoor Go.Proofs.YtlgmanbilaminaaGreatDoor.S10 Go.Proofs.YtlgmanbilaminaaGreatDoor.S11
theorem qrwrite_any (A : Option Addr) (l : List ReqD) (c : Nat) (w : World) (h : ReqsIn w (fun k => k < w.heap.size) A l) :
    Calls Tryz.prog 9 #[.slice A l.length c] w (WriteOut (writeQ l) w) :=
  (qrwriteF_any A l c w h).mono fun e w' ⟨⟨v, L, h1, h2, h3⟩, h4⟩ => ⟨⟨v, L, h1, h2, h3.1⟩, h4⟩
end Go.Proofs.YtlgmanbilaminaaGreatDoor.S12
