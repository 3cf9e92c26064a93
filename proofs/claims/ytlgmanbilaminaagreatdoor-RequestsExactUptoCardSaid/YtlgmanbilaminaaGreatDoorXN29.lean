/-
  The program's Write of requests: Write of codelists, writeFields, Write of package entries, Write. Conditions: the requests lie in memory; the variables hold .. Conditions: as stated.
-/
import Derived.Test.YtlgmanbilaminaaGreatDoorXN01
import Derived.Test.YtlgmanbilaminaaGreatDoorXN02
import Derived.Test.YtlgmanbilaminaaGreatDoorXN03
import Derived.Test.YtlgmanbilaminaaGreatDoorXN04
import Derived.Test.YtlgmanbilaminaaGreatDoorXN05
import Derived.Test.YtlgmanbilaminaaGreatDoorXN06
import Derived.Test.YtlgmanbilaminaaGreatDoorXN07
import Derived.Test.YtlgmanbilaminaaGreatDoorXN08
import Derived.Test.YtlgmanbilaminaaGreatDoorXN09
import Derived.Test.YtlgmanbilaminaaGreatDoorXN11
import Derived.Test.YtlgmanbilaminaaGreatDoorXN12
import Derived.Test.YtlgmanbilaminaaGreatDoorXN22
import Derived.Test.YtlgmanbilaminaaGreatDoorXN26
import Derived.Test.YtlgmanbilaminaaGreatDoorXN27
import Derived.Test.YtlgmanbilaminaaGreatDoorXN28
import Derived.Test.YtlgmanbilaminaaGreatDoorProg
import Derived.WalkKit
import Derived.WalkSpells
import Derived.WalkLawsBesides
import Derived.Lib.Hide
import Derived.Deep.QuietTactic
import Derived.BigQuiet
import Derived.Laws.Rows
import Derived.OwnWalk
import Derived.Lib.BufferWrite
import Derived.Lib.UnsafeStr
import Derived.Laws.IdiomStrings
import Derived.Laws.BytesArg
import Derived.Laws.BytesString
import Derived.Laws.OwnMore
import Derived.Lib.IndexLaws
import Derived.Lib.ItoaNum
import Derived.Lib.Atoi
import Derived.Lib.Bytealg
import Derived.RangeFuncNested
import Derived.RangeFuncBound
import Derived.RangeFuncCalls
import Derived.RangeFuncLeaves
import Derived.Shelf.Abstract
import Derived.Shelf.RegionOpen
import Derived.OwnWalkIn
import Derived.Lib.SlTrimSet
import Derived.Shelf.Strings.Builder1
import Derived.Shelf.Strings.Builder2
import Derived.Shelf.Strings.OnBuilder
import Derived.Shelf.Strings.Trim
import Derived.Shelf.Small.Utf8
import Derived.Shelf.Small.Bits
import Derived.Shelf.Small.Strs
import Derived.Shelf.Small.Wraps
import Derived.Shelf.Strings.BuilderF
import Derived.Shelf.Strings.BuilderK
import Derived.Shelf.Strings.Builder2Cap
import Derived.Shelf.Strconv.Atoi
import Derived.Shelf.Strconv.Itoa0
import Derived.Shelf.Strconv.Itoa1
import Derived.Shelf.LaysM
import Derived.Shelf.Strconv.Itoa2
import Derived.Shelf.Strconv.Itoa3
import Derived.Shelf.Strconv.AtoiErrFast
import Derived.Shelf.Strconv.ParseIntEmpty
import Derived.Shelf.Strconv.AtoiFail
import Derived.Shelf.Strconv.Clone
import Derived.Shelf.Strconv.SyntaxError
import Derived.Shelf.LaysC
import Derived.Shelf.Strconv.ToError
import Derived.Shelf.Strconv.AtoiErr
import Derived.Shelf.Strings.Search1
import Derived.Shelf.Strings.Search2
import Derived.Shelf.Strings.Search3
import Derived.Shelf.Strings.Cut
import Derived.Shelf.Strings.Shaped
import Derived.Shelf.Strings.Prefix
import Derived.Shelf.Strings.Runes
import Derived.Shelf.Strings.AsciiSet
import Derived.Shelf.Bits.Mul64
import Derived.Shelf.Strings.Repeat
import Derived.Shelf.Unicode.DecodeSlow
import Derived.Shelf.Strings.BuilderCap
import Derived.Shelf.Slices.Turned
import Derived.Ground.Names2Prog
import Derived.Shelf.Slices.Clone
import Derived.Ground.SlsfProg
import Derived.Shelf.SlSortCmp.Insertion
import Derived.Shelf.SlSortCmp.SiftDown1
import Derived.Shelf.SlSortCmp.HeapSort1
import Derived.Shelf.SlSortCmp.Insertion1
import Derived.Shelf.SlSortCmp.Median1
import Derived.Shelf.SlSortCmp.Pivot1
import Derived.Shelf.SlSortCmp.ReverseRange1
import Derived.Shelf.SlSortCmp.PartialInsertion1
import Derived.Shelf.SlSortCmp.PartitionEqual1
import Derived.Shelf.SlSortCmp.Partition1
import Derived.Shelf.SlSortCmp.Pdq1
import Derived.Shelf.SlSortCmp.Whole1
import Derived.Shelf.SlSortCmp.NoneTotal
import Derived.Shelf.Strings.SlTrimAscii
import Derived.Lib.AtoiErrMem
import Derived.Handy
import Derived.Laws.ResultCell
import Derived.RegionTactic
import Derived.Lib.Repeat
import Derived.Deep.RegionHeld3
import Derived.Lib.SlicesS
import Derived.TacticsInMore
import Derived.LoopNIn
import Derived.LoopIn
import Derived.Laws.BitsAllLaws
import Derived.Laws.BitsLemmas
import Derived.Deep.MidRow
import Derived.Deep.DeepCutAuto
import Derived.Lib.Join
import Derived.Laws.Concat
import Derived.Deep.RegionLaw
import Derived.Maps.AppendAt
import Derived.Lib.AppendZerosOnto
import Derived.Lib.SliceRun
import Derived.Deep.LoopGhost
import Derived.Maps.OwnSet
import Derived.Maps.Range
import Derived.DeepKeys4
import Derived.Maps.OwnOps
import Derived.Maps.Ext
import Derived.Lib.AppendIntMem
import Derived.Deep.AppendLies
import Derived.RangeFuncBox
import Derived.Deep.CutBlock
import Derived.StillTailTactics
set_option linter.unusedVariables false
namespace Go.Proofs.YtlgmanbilaminaaGreatDoor.S12
open Go Go.Proofs Go.RowKit Go.Lib Go.Proofs.YtlgmanbilaminaaGreatDoor
set_option maxHeartbeats 2000000 in
theorem cwrite_any (A : Option Addr) (l : List Str) (c : Nat) (w : World) (h : S3.StrsIn w (fun b => b < w.heap.size) A l) (hlc : l.length ≤ c) (hc : c ≤ 9223372036854775807) (hk : S3.checkM l = 0) (hE : S3.Env w) :
    Calls Tryz.prog 60 #[.slice A l.length c] w (Says (.string (ba (S3.joinM l))) w) := by
  have cJ := S3.cjoin_any A l c w h hlc hc hE
  unfold S3.JoinOut at cJ
  rw [if_pos hk, hk] at cJ
  unfold Says
  rw [show S3.ba (S3.joinM l) = ba (S3.joinM l) from rfl] at cJ
  obtain ⟨J, hJ⟩ : ∃ J, ba (S3.joinM l) = J := ⟨_, rfl⟩
  rw [hJ] at cJ ⊢
  obtain ⟨n, hn⟩ : ∃ n, l.length = n := ⟨_, rfl⟩
  rw [hn] at cJ ⊢
  have CJ := hid cJ
  clear cJ hJ hn h hlc hk hE
  go_enter Tryz.func60, Tryz.ntmps60
  go_wp2_with fail
  refine CJ.out.mono ?_
  rintro e w1 ⟨rfl, hb⟩
  have HB := hid hb
  clear hb
  go_wp2
  go_ret
  exact ⟨rfl, HB.out⟩
structure KQ (w : World) (v0 v1 v2 v3 : Value) (W : World) : Prop where
  b : Below w.heap.size w W
  x : Box4 W w.heap.size v0 v1 v2 v3
theorem KQ.next {w W W' : World} {v0 v1 v2 v3 : Value} (h : KQ w v0 v1 v2 v3 W) (hb : Below W.heap.size W W') : KQ w v0 v1 v2 v3 W' := ⟨h.b.trans (hb.mono h.b.size), h.x.next hb⟩
set_option maxHeartbeats 16000000 in
set_option maxRecDepth 100000 in
theorem qfields_any (x : ReqD) (q : ReqA) (w : World) (h : ReqIn w (fun k => k < w.heap.size) x q) (hx : reqM x = 0) (hv : S3.checkM x.l = 0) (hE : S3.Env w) :
    Calls Tryz.prog 35 #[reqV x q] w (S3.RowOut (rowQ x) w) := by
  obtain ⟨_, _, p1, p9, _, _⟩ := reqM_all hx
  obtain ⟨st, co, p, l⟩ := x
  obtain ⟨A, c⟩ := q
  obtain ⟨ht, ht1, ht2⟩ := h
  dsimp only at ht ht1 ht2 hv p1 p9
  unfold reqV rowQ S3.RowOut
  dsimp only
  have hk0 : KQ w (.string (ba st)) (.string (ba co)) (.int .i64 p) (.slice A l.length c) (w.alloc (.cells #[.string (ba st), .string (ba co), .int .i64 p, .slice A l.length c] 61)) := ⟨(Below.refl _ _).alloc (Nat.le_refl _) _, Box4.new _ _ _ _ _⟩
  have cI := hid (fun (w' : World) (hb : Below w.heap.size w w') => itoa4_any p (by omega) (by omega) w' (hE.below hb))
  have cW := hid (fun (w' : World) (hb : Below w.heap.size w w') => cwrite_any A l c w' ((ht.below hb).mono (fun k hk => Nat.lt_of_lt_of_le hk hb.size)) ht1 ht2 hv (hE.below hb))
  unfold Says at cI cW
  obtain ⟨X1, hX1⟩ : ∃ X, ba st = X := ⟨_, rfl⟩
  obtain ⟨X2, hX2⟩ : ∃ X, ba co = X := ⟨_, rfl⟩
  obtain ⟨X3, hX3⟩ : ∃ X, ba (decDigits p.toNat) = X := ⟨_, rfl⟩
  obtain ⟨X4, hX4⟩ : ∃ X, ba (S3.joinM l) = X := ⟨_, rfl⟩
  have hrow : Hid (S3.strVals [st, co, decDigits p.toNat, S3.joinM l] = [.string X1, .string X2, .string X3, .string X4]) := hid (by rw [← hX1, ← hX2, ← hX3, ← hX4]; rfl)
  rw [hX3] at cI
  rw [hX4] at cW
  rw [hX1, hX2] at hk0 ⊢
  obtain ⟨n, hn⟩ : ∃ F, l.length = F := ⟨_, rfl⟩
  rw [hn] at hk0 cW ⊢
  have CI := cI
  have CW := cW
  have HK0 := hid hk0
  clear ht cI cW hX1 hX2 hX3 hX4 hn hk0 hE ht1 hv hx p1 p9
  go_enter Tryz.func35, Tryz.ntmps35
  go_wp2_with fail
  have hk := HK0.out
  clear HK0
  generalize World.alloc _ _ = wx at hk ⊢
  have HK1 := hid hk
  clear hk
  refine wp_region_held_drew (S := KQ w (.string X1) (.string X2) (.int .i64 p) (.slice A n c)) (by kernel_rfl) (HK1.out.next (Below.refl _ _).drew) (fun hHeld => ?_)
  (refine wpAnyH_take (i := 0) (oi := _) (v := ?_) rfl (by kernel_rfl) (by kernel_rfl) (by kernel_rfl) (fun _ _ _ h => h) (Or.inl ⟨by rfl, ?_⟩) (by assumption) ?_; rotate_left; (intro wS hSw; obtain ⟨x0, x1, x2, x3⟩ := hSw.x.cells; (try simp only [List.getElem_toArray, List.getElem_cons_zero]); go_simp; (try with_reducible rfl)))
  try simp only [List.getElem_toArray, List.getElem_cons_zero, Act.put, List.setIfInBounds_toArray, List.set_cons_zero, List.set_cons_succ]
  (refine wpAnyH_take (i := 1) (oi := _) (v := ?_) rfl (by kernel_rfl) (by kernel_rfl) (by kernel_rfl) (fun _ _ _ h => h) (Or.inl ⟨by rfl, ?_⟩) (by assumption) ?_; rotate_left; (intro wS hSw; obtain ⟨x0, x1, x2, x3⟩ := hSw.x.cells; (try simp only [List.getElem_toArray, List.getElem_cons_succ, List.getElem_cons_zero]); go_simp; (try with_reducible rfl)))
  try simp only [List.getElem_toArray, List.getElem_cons_succ, List.getElem_cons_zero, Act.put, List.setIfInBounds_toArray, List.set_cons_zero, List.set_cons_succ]
  (refine wpAnyH_take (i := 2) (oi := _) (v := ?_) rfl (by kernel_rfl) (by kernel_rfl) (by kernel_rfl) (fun _ _ _ h => h) (Or.inl ⟨by rfl, ?_⟩) (by assumption) ?_; rotate_left; (intro wS hSw; obtain ⟨x0, x1, x2, x3⟩ := hSw.x.cells; (try simp only [List.getElem_toArray, List.getElem_cons_succ, List.getElem_cons_zero]); go_simp; (try with_reducible rfl)))
  try simp only [List.getElem_toArray, List.getElem_cons_succ, List.getElem_cons_zero, Act.put, List.setIfInBounds_toArray, List.set_cons_zero, List.set_cons_succ]
  (refine wpAnyH_take (i := 3) (oi := _) (v := ?_) rfl (by kernel_rfl) (by kernel_rfl) (by kernel_rfl) (fun _ _ _ h => h) (Or.inl ⟨by rfl, ?_⟩) (by assumption) ?_; rotate_left; (intro wS hSw; obtain ⟨x0, x1, x2, x3⟩ := hSw.x.cells; (try simp only [List.getElem_toArray, List.getElem_cons_succ, List.getElem_cons_zero]); go_simp; (try with_reducible rfl)))
  try simp only [List.getElem_toArray, List.getElem_cons_succ, List.getElem_cons_zero, Act.put, List.setIfInBounds_toArray, List.set_cons_zero, List.set_cons_succ]
  (refine wpAnyH_take (i := 4) (oi := _) (v := ?_) rfl (by kernel_rfl) (by kernel_rfl) (by kernel_rfl) (fun _ _ _ h => h) (Or.inl ⟨by rfl, ?_⟩) (by assumption) ?_; rotate_left; (intro wS hSw; obtain ⟨x0, x1, x2, x3⟩ := hSw.x.cells; (try simp only [List.getElem_toArray, List.getElem_cons_succ, List.getElem_cons_zero]); go_simp; (try with_reducible rfl)))
  try simp only [List.getElem_toArray, List.getElem_cons_succ, List.getElem_cons_zero, Act.put, List.setIfInBounds_toArray, List.set_cons_zero, List.set_cons_succ]
  (refine wpAnyH_take (i := 5) (oi := _) (v := ?_) rfl (by kernel_rfl) (by kernel_rfl) (by kernel_rfl) (fun _ _ _ h => h) (Or.inl ⟨by rfl, ?_⟩) (by assumption) ?_; rotate_left; (intro wS hSw; obtain ⟨x0, x1, x2, x3⟩ := hSw.x.cells; (try simp only [List.getElem_toArray, List.getElem_cons_succ, List.getElem_cons_zero]); go_simp; (try with_reducible rfl)))
  try simp only [List.getElem_toArray, List.getElem_cons_succ, List.getElem_cons_zero, Act.put, List.setIfInBounds_toArray, List.set_cons_zero, List.set_cons_succ]
  (refine wpAnyH_take (i := 7) (oi := _) (v := ?_) rfl (by kernel_rfl) (by kernel_rfl) (by kernel_rfl) (fun _ _ _ h => h) (Or.inl ⟨by rfl, ?_⟩) (by assumption) ?_; rotate_left; (intro wS hSw; obtain ⟨x0, x1, x2, x3⟩ := hSw.x.cells; (try simp only [List.getElem_toArray, List.getElem_cons_succ, List.getElem_cons_zero]); go_simp; (try with_reducible rfl)))
  try simp only [List.getElem_toArray, List.getElem_cons_succ, List.getElem_cons_zero, Act.put, List.setIfInBounds_toArray, List.set_cons_zero, List.set_cons_succ]
  (refine wpAnyH_take (i := 8) (oi := _) (v := ?_) rfl (by kernel_rfl) (by kernel_rfl) (by kernel_rfl) (fun _ _ _ h => h) (Or.inl ⟨by rfl, ?_⟩) (by assumption) ?_; rotate_left; (intro wS hSw; obtain ⟨x0, x1, x2, x3⟩ := hSw.x.cells; (try simp only [List.getElem_toArray, List.getElem_cons_succ, List.getElem_cons_zero]); go_simp; (try with_reducible rfl)))
  try simp only [List.getElem_toArray, List.getElem_cons_succ, List.getElem_cons_zero, Act.put, List.setIfInBounds_toArray, List.set_cons_zero, List.set_cons_succ]
  (refine wpAnyH_ready (rs := [6]) (by kernel_rfl) (by simp) ?_; refine AllReadyH.cons (o := _) rfl (fun K hK => ?_) AllReadyH.nil; (try simp only [List.getElem_toArray, List.getElem_cons_succ, List.getElem_cons_zero]); go_simp; go_at_call 59; refine (CI.out _ hHeld.b).mono ?_; rintro e wz ⟨rfl, hbz⟩; have hHeld := hHeld.next hbz; have HWZ := hid hHeld.b.size; clear hbz; go_wp2_with fail; refine hK.out _ _ hHeld (fun hHeld => ?_); clear hK K)
  try simp only [List.getElem_toArray, List.getElem_cons_succ, List.getElem_cons_zero, Act.put, List.setIfInBounds_toArray, List.set_cons_zero, List.set_cons_succ]
  (refine wpAnyH_ready (rs := [9]) (by kernel_rfl) (by simp) ?_; refine AllReadyH.cons (o := _) rfl (fun K hK => ?_) AllReadyH.nil; (try simp only [List.getElem_toArray, List.getElem_cons_succ, List.getElem_cons_zero]); go_simp; go_at_call 60; refine (CW.out _ hHeld.b).mono ?_; rintro e wz ⟨rfl, hbz⟩; have hHeld := hHeld.next hbz; have HWZ := hid hHeld.b.size; clear hbz; go_wp2_with fail; refine hK.out _ _ hHeld (fun hHeld => ?_); clear hK K)
  try simp only [List.getElem_toArray, List.getElem_cons_succ, List.getElem_cons_zero, Act.put, List.setIfInBounds_toArray, List.set_cons_zero, List.set_cons_succ]
  (refine wpAnyH_ready (rs := [10]) (by kernel_rfl) (by simp) ?_; refine AllReadyH.cons (o := _) rfl (fun K hK => ?_) AllReadyH.nil; (try simp only [List.getElem_toArray, List.getElem_cons_succ, List.getElem_cons_zero]); go_simp; go_wp2_with fail; refine hK.out _ _ (hHeld.next ((Below.refl _ _).alloc (Nat.le_refl _) _)) (fun hHeld => ?_); clear hK K)
  try simp only [List.getElem_toArray, List.getElem_cons_succ, List.getElem_cons_zero, Act.put, List.setIfInBounds_toArray, List.set_cons_zero, List.set_cons_succ]
  (refine wpAnyH_take (i := 11) (oi := _) (v := ?_) rfl (by kernel_rfl) (by kernel_rfl) (by kernel_rfl) (fun _ _ _ h => h) (Or.inl ⟨by rfl, ?_⟩) (by assumption) ?_; rotate_left; (intro wS hSw; obtain ⟨x0, x1, x2, x3⟩ := hSw.x.cells; (try simp only [List.getElem_toArray, List.getElem_cons_succ, List.getElem_cons_zero]); go_simp; (try with_reducible rfl)))
  try simp only [List.getElem_toArray, List.getElem_cons_succ, List.getElem_cons_zero, Act.put, List.setIfInBounds_toArray, List.set_cons_zero, List.set_cons_succ]
  refine wpAnyH_done (by kernel_rfl) ?_ _
  go_wp2_with fail
  go_ret
  refine ⟨⟨_, rfl, ?_⟩, hHeld.b⟩
  unfold S3.StrRow
  rw [hrow.out]
  exact World.ownsRow_lit wz #[.string X1, .string X2, .string X3, .string X4] 4 HWZ.out (by decide) rfl
set_option maxHeartbeats 16000000 in
set_option maxRecDepth 100000 in
theorem ewrite_any (A : Option Addr) (l : List ReqD) (c : Nat) (w : World) (h : ReqsIn w (fun k => k < w.heap.size) A l) (h16 : l.length ≤ 400) (hok : ∀ r ∈ l, reqM r = 0) (hE : S3.Env w) :
    Calls Tryz.prog 34 #[.slice A l.length c, .int .i64 0, .func (.func 35) #[] #[]] w (WriteOut (l.map rowQ, 0) w) := by
  have eg : ∀ args w, (callFunc 35 args).run Tryz.prog w = .ok (.enter 35 args) w := enters_of Tryz.func35 (by kernel_rfl) rfl
  obtain ⟨iS, hiS, hzS, hsS, hbS⟩ := info_parts infoStrs7
  unfold WriteOut
  have HH := hid (fun (w' : World) (hb : Below w.heap.size w w') => h.below hb)
  have HE := hid (fun (w' : World) (hb : Below w.heap.size w w') => hE.below hb)
  have HOK := hid hok
  clear h hE hok
  go_enter Tryz.func34, Tryz.ntmps34
  go_wp2
  go_loopw [8, 16] (fun v iv wr => ∃ (i : Nat) (L : List RowA), iv = .int .i64 (i : Int) ∧ i ≤ l.length ∧ Hid (L.map (·.1) = (l.take i).map rowQ) ∧ Hid (RowsRow wr w.heap.size v L) ∧ Hid (Below w.heap.size w wr)) (fun _ iv _ => l.length - (RowKit.intOf iv).toNat)
  case atStart => exact ⟨0, [], rfl, Nat.zero_le _, hid rfl, hid (RowsRow.nil _ _), hid (Below.refl _ _)⟩
  case round =>
    obtain ⟨i, L, rfl, hi, hL, hrow, hB⟩ := hrel
    obtain ⟨Ar, cr, hvr, _⟩ := hrow.out.rowsIn
    subst hvr
    have hLl : L.length = i := by
      have := congrArg List.length hL.out
      rw [List.length_map, List.length_map, List.length_take] at this
      omega
    have HLL := hid hLl
    clear hLl
    by_cases hlt : i < l.length
    · have hltz : (i : Int) < (l.length : Int) := by omega
      obtain ⟨fb, fo, q, rfl, hfb, hri, y0, y1, y2, y3⟩ := (HH.out _ hB.out).at_ hlt
      have hroom := HOK.out _ (List.getElem_mem hlt)
      have hst : (l.take (i + 1)).map rowQ = L.map (·.1) ++ [rowQ l[i]] := by rw [hL.out, List.take_succ_eq_append_getElem hlt, List.map_append]; rfl
      have cW : ∀ W, Below wr.heap.size wr W → Calls Tryz.prog 35 #[reqV l[i] q] W (S3.RowOut (rowQ l[i]) W) :=
        fun W hb => qfields_any l[i] q W ((hri.below (hb.mono hB.out.size)).mono (fun k hk => Nat.lt_of_lt_of_le hk (Nat.le_trans hB.out.size hb.size))) hroom (check_tail (reqM_all hroom).2.2.2.2.2).1 (HE.out W (hB.out.trans (hb.mono hB.out.size)))
      obtain ⟨RW, hRW⟩ : ∃ r, rowQ l[i] = r := ⟨_, rfl⟩
      rw [hRW] at cW hst
      unfold reqV S3.RowOut at cW
      obtain ⟨X1, hX1⟩ : ∃ X, ba l[i].s = X := ⟨_, rfl⟩
      obtain ⟨X2, hX2⟩ : ∃ X, ba l[i].c = X := ⟨_, rfl⟩
      obtain ⟨PP, hPP⟩ : ∃ X, l[i].p = X := ⟨_, rfl⟩
      obtain ⟨T1, hT1⟩ : ∃ F, l[i].l.length = F := ⟨_, rfl⟩
      rw [hX1] at y0 cW
      rw [hX2] at y1 cW
      rw [hPP] at y2 cW
      rw [hT1] at y3 cW
      have hb1 := (Below.refl wr.heap.size wr).alloc (Nat.le_refl _) (.cells #[.string X1, .string X2, .int .i64 PP, .slice q.1 T1 q.2] 61)
      have hx1 := Box4.new wr (.string X1) (.string X2) (.int .i64 PP) (.slice q.1 T1 q.2)
      have CW := hid (cW _ hb1)
      have HB1 := hid hb1
      have HX1 := hid hx1
      have HST := hid hst
      clear hRW hX1 hX2 hPP hT1 hb1 hx1 cW hst hri hroom hfb
      go_wp2_with fail
      generalize wr.alloc (.cells #[.string X1, .string X2, .int .i64 PP, .slice q.1 T1 q.2] 61) = w1 at HB1 HX1 CW ⊢
      obtain ⟨z0, z1, z2, z3⟩ := HX1.out.cells
      go_wp2_with fail
      refine CW.out.mono ?_
      rintro e w2 ⟨⟨vi, rfl, hrowi⟩, hb2⟩
      obtain ⟨Ai, ci, rfl, hl5, hc5, _⟩ := hrowi.strsIn
      have HB2 := hid hb2
      have HRowi := hid hrowi
      have hrow2 : w2.ownsRow w.heap.size 40 1 (.slice Ar L.length cr) L.length (L.map rowV) := row_under (row_under hrow.out.1 HB1.out) HB2.out
      have HRow2 := hid hrow2
      have HC3 : Hid (L.length + 1 ≤ maxLen) := by unfold maxLen; exact hid (by have := HLL.out; omega)
      have HC4 : Hid ((L.length + 1) * 24 ≤ 140737488355328) := hid (by have := HLL.out; omega)
      have HSZ : Hid (w.heap.size ≤ w2.heap.size) := hid (by have := hB.out.size; have := HB1.out.size; have := HB2.out.size; omega)
      have HC5 : Hid (∀ o : Obj, w.heap.size ≤ (w2.alloc o).heap.size) := hid (fun o => by have := HSZ.out; simp; omega)
      clear hb2 hrowi hrow2 y0 y1 y2 y3 hl5 hc5 z0 z1 z2 z3
      go_wp2_with (at_builtin; refine wpList_append_own_at _ rfl _ _ 28 rfl w.heap.size 40 iS (.slice none 0 0) 1 24 Tryz.underlying28 hiS hzS hsS hbS rfl (by decide) _ L.length (L.map rowV) rfl (World.ownsRow.alloc HRow2.out _) ⟨w2.heap.size, 0, none⟩ 1 1 [.slice Ai RW.length ci] rfl rfl (one_new _ _ _) (one_slice _ _ _) HC3.out HC4.out (HC5.out _) ?_)
      intro v' w4 hown' hgrow _ hat
      have hsn := RowsRow.snoc hrow.out (by have := hB.out.size; have := HB1.out.size; omega) HB1.out HB2.out HRowi.out ((Below.refl w2.heap.size w2).alloc (Nat.le_refl _) _) hown' hgrow (hat.imp id (fun h => h.trans (by simp)))
      have hg' := grownBy_of_alloc hgrow
      have hb24 : Below w.heap.size w2 w4 := (Below.refl _ w2).grown hg' HSZ.out (fun k hk => (World.ownsRow.lt HRow2.out k hk).1)
      have HB4 := hid (((hB.out.trans (HB1.out.mono hB.out.size)).trans (HB2.out.mono (by have := hB.out.size; have := HB1.out.size; omega))).trans hb24)
      have HSN := hid hsn
      have HL2 : Hid ((L ++ [(RW, Ai, ci)]).map (·.1) = (l.take (i + 1)).map rowQ) := hid (by rw [HST.out, List.map_append]; rfl)
      clear hb24 hg' hgrow hown' hsn hat
      go_wp2_with fail
      go_roundw
      case rel => exact ⟨i + 1, L ++ [(RW, Ai, ci)], by go_num, by omega, HL2, HSN, HB4⟩
      case measure => simp [RowKit.intOf]; omega
    · have hltz : ¬ (i : Int) < (l.length : Int) := by omega
      have hL2 : Hid (L.map (·.1) = l.map rowQ) := hid (by rw [hL.out, List.take_of_length_le (by omega)])
      go_wp2
      go_ret2
      exact ⟨⟨_, L, hL2.out, rfl, hrow.out⟩, hB.out⟩
set_option maxHeartbeats 4000000 in
theorem ewriteE_any (A : Option Addr) (n c : Nat) (R : Int) (hR : R ≠ 0) (f : Value) (w : World) :
    Calls Tryz.prog 34 #[.slice A n c, .int .i64 R, f] w (WriteOut ([], R) w) := by
  unfold WriteOut
  have hR1 : (R != 0) = true := by simpa using hR
  have hR2 : (R == 0) = false := by simpa using hR
  go_enter Tryz.func34, Tryz.ntmps34
  go_wp2
  go_ret2
  exact ⟨⟨_, [], rfl, rfl, RowsRow.nil _ _⟩, Below.refl _ _⟩
set_option maxHeartbeats 8000000 in
theorem qwrite_any (A : Option Addr) (l : List ReqD) (c : Nat) (w : World) (h : ReqsIn w (fun k => k < w.heap.size) A l) (hE : S3.Env w) :
    Calls Tryz.prog 8 #[.slice A l.length c] w (WriteOut (writeQ l) w) := by
  have cV := qvalid_any A l c w h hE
  have cW : ∀ W, Below w.heap.size w W → Calls Tryz.prog 34 #[.slice A l.length c, .int .i64 (validQ l), .func (.func 35) #[] #[]] W (WriteOut (writeQ l) W) := fun W hb => by
    unfold writeQ
    by_cases h0 : validQ l = 0
    · rw [if_neg (by simpa using h0), h0]
      exact ewrite_any A l c W ((h.below hb).mono (fun k hk => Nat.lt_of_lt_of_le hk hb.size)) (validQ_ok h0).1 (validQ_ok h0).2 (hE.below hb)
    · rw [if_pos h0]
      exact ewriteE_any A l.length c (validQ l) h0 _ W
  unfold Says at cV
  unfold WriteOut at cW ⊢
  obtain ⟨R, hR⟩ : ∃ R, validQ l = R := ⟨_, rfl⟩
  obtain ⟨⟨o1, o2⟩, hO⟩ : ∃ R, writeQ l = R := ⟨_, rfl⟩
  rw [hR] at cV cW
  rw [hO] at cW ⊢
  obtain ⟨N, hN⟩ : ∃ N, l.length = N := ⟨_, rfl⟩
  rw [hN] at cV cW ⊢
  have CV := hid cV
  have CW := hid cW
  clear cV cW hR hO hN h hE
  go_enter Tryz.func8, Tryz.ntmps8
  go_wp2_with fail
  refine CV.out.mono ?_
  rintro e w1 ⟨rfl, hb1⟩
  have HB1 := hid hb1
  clear hb1
  go_wp2_with fail
  refine (CW.out _ HB1.out).mono ?_
  rintro e w2 ⟨⟨v, L, hL, rfl, hrow⟩, hb2⟩
  have HR : Hid (∃ v' L', L'.map (·.1) = o1 ∧ Ending.returned (.tuple #[v, .int .i64 o2]) = .returned (.tuple #[v', .int .i64 o2]) ∧ RowsRow w2 w.heap.size v' L') := hid ⟨v, L, hL, rfl, hrow.low HB1.out.size⟩
  have HB2 := hid (HB1.out.trans (hb2.mono HB1.out.size))
  clear hL hrow hb2
  go_wp2
  go_ret2
  exact ⟨HR.out, HB2.out⟩
end Go.Proofs.YtlgmanbilaminaaGreatDoor.S12
set_option linter.unusedVariables false
namespace Go.Proofs.YtlgmanbilaminaaGreatDoor.S11
open Go Go.Proofs Go.RowKit Go.Lib Go.Proofs.YtlgmanbilaminaaGreatDoor
theorem own_free {w : World} {B : Nat} {e : TypeId} {size n cap g : Nat} {xs : List Value} (h : w.ownsRow B e size (.slice (some ⟨g, 0, none⟩) n cap) n xs) (j : Nat) : w.frozen? ⟨g, j, none⟩ = false := by
  rcases h.2 with ⟨h2, _⟩ | ⟨g', cap', cur, hv, hB, hg, _⟩
  · injection h2 with h2; injection h2
  · injection hv with hv _ hc
    injection hv with hv
    injection hv with hv
    subst hv
    simp [World.frozen?, hg]
def RowsF (w : World) (B : Nat) (v : Value) (L : List RowA) : Prop := RowsRow w B v L ∧ ∀ p ∈ L, p.1 ≠ [] → ∀ b off, p.2.1 = some ⟨b, off, none⟩ → ∀ j, w.frozen? ⟨b, j, none⟩ = false
theorem RowsF.nil (w : World) (B : Nat) : RowsF w B (.slice none 0 0) [] := ⟨RowsRow.nil _ _, fun p hp => by simp at hp⟩
theorem RowsF.low {w : World} {B B' : Nat} {v : Value} {L : List RowA} (h : RowsF w B v L) (hB : B' ≤ B) : RowsF w B' v L := ⟨h.1.low hB, h.2⟩
theorem RowsF.at_ {w : World} {B : Nat} {v : Value} {L : List RowA} (h : RowsF w B v L) {p : RowA} (hp : p ∈ L) (hne : p.1 ≠ []) : ∃ b off, p.2.1 = some ⟨b, off, none⟩ ∧ (B ≤ b ∧ b < w.heap.size ∧ v.ownBlock ≠ some b) ∧ (∀ j, w.frozen? ⟨b, j, none⟩ = false) ∧ ∀ (j : Nat) (s : Str), p.1[j]? = some s → w.cell? ⟨b, off + j, none⟩ = some (.string (ba s)) := by
  rcases (h.1.2 p hp).1 with h0 | ⟨b, off, hA, hP, hc⟩
  · exact absurd h0 hne
  · exact ⟨b, off, hA, hP, h.2 p hp hne b off hA, hc⟩
theorem RowsF.snoc {w w1 w2 w3 w4 : World} {B : Nat} {v v' : Value} {L : List RowA} {l : List Str} {A : Option Addr} {c : Nat} (h : RowsF w B v L) (hBw : B ≤ w1.heap.size) (h1 : Below w.heap.size w w1) (hb : Below w1.heap.size w1 w2) (hr : S3.StrRow w2 w1.heap.size (.slice A l.length c) l)
    (h3 : Below w2.heap.size w2 w3) (hown' : w4.ownsRow B 40 1 v' (L.length + 1) (L.map rowV ++ [.slice A l.length c])) (hg : w3.grownBy w4 v.ownBlock) (hat : v'.ownBlock = v.ownBlock ∨ v'.ownBlock = some w3.heap.size) : RowsF w4 B v' (L ++ [(l, A, c)]) := by
  have hs1 := h1.size
  have hs2 := hb.size
  have hs3 := h3.size
  have hvl : ∀ g, v.ownBlock = some g → g < w.heap.size := fun g hg => (World.ownsRow.lt h.1.1 g hg).2
  refine ⟨RowsRow.snoc h.1 hBw h1 hb hr h3 hown' hg hat, fun p hp hne b off hA j => ?_⟩
  rcases List.mem_append.1 hp with hp | hp
  · obtain ⟨b', off', hA', ⟨k1, k2, k3⟩, hf, _⟩ := h.at_ hp hne
    rw [hA] at hA'
    injection hA' with hA'
    injection hA' with e1 e2
    subst e1
    have e : w4.heap[b]? = w.heap[b]? := by rw [hg.block b (by omega) (fun e => k3 e.symm), h3.block b (by omega), hb.block b (by omega), h1.block b k2]
    exact (World.frozen?_of_block (a := ⟨b, j, none⟩) e).trans (hf j)
  · rw [List.mem_singleton] at hp
    subst hp
    have hl0 : 0 < l.length := List.length_pos_iff.2 hne
    obtain ⟨g, cap, hv, hgB, hgs⟩ := World.ownsRow.form hr hl0
    dsimp only at hA
    subst hA
    injection hv with hv _ hc
    injection hv with hv
    injection hv with e1 e2
    subst e1 e2 hc
    have hf := own_free hr j
    have e : w4.heap[b]? = w2.heap[b]? := by rw [hg.block b (by omega) (fun e => by have := hvl b e.symm; omega), h3.block b (by omega)]
    exact (World.frozen?_of_block (a := ⟨b, j, none⟩) e).trans hf
def WriteOutF (o : List (List Str) × Int) (w : World) (e : Ending) (w' : World) : Prop := (∃ v L, L.map (·.1) = o.1 ∧ e = .returned (.tuple #[v, .int .i64 o.2]) ∧ RowsF w' w.heap.size v L) ∧ Below w.heap.size w w'
end Go.Proofs.YtlgmanbilaminaaGreatDoor.S11
set_option linter.unusedVariables false
namespace Go.Proofs.YtlgmanbilaminaaGreatDoor.S3
open Go Go.Proofs Go.RowKit Go.Lib
set_option maxHeartbeats 8000000 in
set_option maxRecDepth 100000 in
theorem rjoin_any (A : Option Addr) (l : List Str) (c : Nat) (w : World) (h : StrsIn w (fun b => b < w.heap.size) A l) (hlc : l.length ≤ c) (hc : c ≤ 9223372036854775807) :
    Calls Tryz.prog 36 #[.slice A l.length c] w (JoinOut l w) := by
  unfold JoinOut
  obtain ⟨R, hR⟩ : ∃ R, checkM l = R := ⟨_, rfl⟩
  rw [hR]
  obtain ⟨TX, hTX⟩ : ∃ T, ba (if R = 0 then joinM l else []) = T := ⟨_, rfl⟩
  rw [hTX]
  have HT := hid hTX
  clear hTX
  have HL := hid h
  clear h
  by_cases h64 : 64 < l.length
  · have hz : (64 : Int) < (l.length : Int) := by omega
    have hr : Hid (R = 2) := hid (by rw [← hR]; exact if_pos h64)
    clear hR
    go_enter Tryz.func36, Tryz.ntmps36
    go_wp2
    go_ret2
    rw [← HT.out, hr.out]
    exact ⟨rfl, Below.refl _ _⟩
  · have hz : ¬ (64 : Int) < (l.length : Int) := by omega
    have hr0 : Hid (R = checkGo [] l) := hid (by rw [← hR]; exact if_neg h64)
    have HR := hid hR
    clear hR
    go_enter Tryz.func36, Tryz.ntmps36
    go_wp2
    go_loopw [4, 5] (fun iv _ wr => ∃ (i q : Nat), i ≤ l.length ∧ iv = .int .i64 (i : Int) ∧ Hid (R = checkGo (l.take i) (l.drop i)) ∧ wr = w.drewN q) (fun iv _ _ => l.length - (RowKit.intOf iv).toNat)
    case atStart => exact ⟨0, 0, Nat.zero_le _, rfl, hid hr0.out, rfl⟩
    case round =>
      obtain ⟨i, q, hi, rfl, hrr, rfl⟩ := hrel
      by_cases hlt : i < l.length
      · have hltz : (i : Int) < (l.length : Int) := by omega
        have hst := checkGo_step l i hlt
        rw [← hrr.out] at hst
        obtain ⟨b, off, rfl, hbl, hcell⟩ : ∃ b off, A = some ⟨b, off, none⟩ ∧ b < w.heap.size ∧ ∀ (j : Nat) (s : Str), l[j]? = some s → w.cell? ⟨b, off + j, none⟩ = some (.string (ba s)) := by
          rcases HL.out with h | h
          · subst h; simp at hlt
          · exact h
        obtain ⟨s, hs⟩ : ∃ s, l[i] = s := ⟨_, rfl⟩
        have hc0 := hcell i s (by rw [List.getElem?_eq_getElem hlt, hs])
        have HC : Hid (∀ (j : Nat) (s : Str) (q : Nat), l[j]? = some s → (w.drewN q).cell? ⟨b, off + j, none⟩ = some (.string (ba s))) := hid (fun j s q hj => hcell j s hj)
        have hcq : (w.drewN q).cell? ⟨b, off + i, none⟩ = some (.string (ba s)) := hc0
        have cV := refValid_any (ba s) (w.drewN q)
        rw [show (ba s).data.toList = s from rfl] at cV
        rw [hs] at hst
        have HST := hid hst
        have HS := hid hs
        clear hst hs hcell hc0
        by_cases hv : validC s = true
        · rw [hv] at cV
          have CV := hid cV
          clear cV
          go_wp2_with fail
          refine CV.out.mono ?_
          rintro e w1 ⟨rfl, rfl⟩
          go_wp2
          go_loopw [5] (fun jv wq => ∃ (j q : Nat), j ≤ i ∧ jv = .int .i64 (j : Int) ∧ Hid (s ∉ l.take j) ∧ wq = w.drewN q) (fun jv _ => i - (RowKit.intOf jv).toNat)
          case atStart => exact ⟨0, q, Nat.zero_le _, rfl, hid (by simp), rfl⟩
          case round =>
            obtain ⟨j, q, hj, rfl, hno, rfl⟩ := hrel
            by_cases hji : j < i
            · have hjz : (j : Int) < (i : Int) := by omega
              have hjl : j < l.length := by omega
              have hjlz : (j : Int) < (l.length : Int) := by omega
              obtain ⟨s2, hs2⟩ : ∃ s, l[j] = s := ⟨_, rfl⟩
              have hcj := HC.out j s2 0 (by rw [List.getElem?_eq_getElem hjl, hs2])
              have hci := HC.out i s 0 (by rw [List.getElem?_eq_getElem hlt, HS.out])
              change w.cell? _ = _ at hcj hci
              have hmem : s = s2 → s ∈ l.take i := fun h => by
                rw [h, ← hs2]
                exact List.mem_take_iff_getElem.2 ⟨j, by omega, rfl⟩
              have hnot : ¬ s = s2 → s ∉ l.take (j + 1) := fun h => by
                rw [List.take_succ_eq_append_getElem hjl, List.mem_append]
                rintro (h2 | h2)
                · exact hno.out h2
                · rw [hs2] at h2
                  exact h (by simpa using h2)
              rcases str_eq (a := ba s) (b := ba s2) with ⟨he, t1, t2⟩ | ⟨he, t1, t2⟩
              · have hr : Hid (R = 11) := hid (by rw [HST.out, if_neg (by rw [hv]; simp), if_pos (hmem he)])
                generalize ba s = S at *
                generalize ba s2 = S2 at *
                clear hmem hnot he hs2 hno
                go_wp2_with fail
                go_quiet (fail)
                go_wp2
                go_ret2
                rw [← HT.out, hr.out]
                exact ⟨rfl, below_drewN (below_drewN (Below.refl _ _) _) _⟩
              · have hn2 := hid (hnot he)
                generalize ba s = S at *
                generalize ba s2 = S2 at *
                clear hmem hnot he hs2 hno
                go_wp2_with fail
                go_quiet (fail)
                go_wp2
                go_roundw
                case rel => exact ⟨j + 1, _, by omega, by go_num, hn2, rfl⟩
                case measure => simp [RowKit.intOf]; omega
            · obtain rfl : j = i := by omega
              have hrr2 : Hid (R = checkGo (l.take (j + 1)) (l.drop (j + 1))) := hid (by rw [HST.out, if_neg (by rw [hv]; simp), if_neg hno.out])
              go_wp2
              go_roundw
              case rel => exact ⟨j + 1, q, by omega, by go_num, hrr2, rfl⟩
              case measure => simp [RowKit.intOf]; omega
        · have hv' : validC s = false := by simpa using hv
          rw [hv'] at cV
          have hr : Hid (R = 10) := hid (by rw [HST.out, if_pos hv'])
          have CV := hid cV
          clear cV
          go_wp2_with fail
          refine CV.out.mono ?_
          rintro e w1 ⟨rfl, rfl⟩
          go_wp2
          go_ret2
          rw [← HT.out, hr.out]
          exact ⟨rfl, below_drewN (Below.refl _ _) _⟩
      · obtain rfl : i = l.length := by omega
        have hR0 : R = 0 := by rw [hrr.out, List.drop_length]; cases l.take l.length <;> rfl
        obtain ⟨_, hv⟩ := check_valid (HR.out.trans hR0)
        have HV := hid hv
        have HTJ : Hid (TX = ba (semi (partsL l))) := hid (by rw [← HT.out, if_pos hR0]; rfl)
        subst hR0
        clear hv
        have HB0 : Hid (Below w.heap.size w (w.drewN q)) := hid (below_drewN (Below.refl _ _) _)
        generalize w.drewN q = w0 at HB0 ⊢
        go_wp2
        go_loopw [6, 7] (fun ov iv wr => ∃ (n : Nat) (ps : List Str), ov = .string (ba (semi ps)) ∧ iv = .int .i64 (n : Int) ∧ n ≤ l.length ∧ Hid (partsL l = ps ++ partsL (l.drop n)) ∧ Hid (ps = [] ↔ n = 0) ∧ Hid (Below w.heap.size w wr)) (fun _ iv _ => l.length - (RowKit.intOf iv).toNat)
        case atStart => exact ⟨0, [], rfl, rfl, Nat.zero_le _, hid rfl, hid (by simp), HB0⟩
        case round =>
          obtain ⟨n, ps, rfl, rfl, hn, hps, hpn, HB⟩ := hrel
          by_cases hnl : n < l.length
          · have hnlz : (n : Int) < (l.length : Int) := by omega
            obtain ⟨b, off, rfl, hbl, hcell⟩ : ∃ b off, A = some ⟨b, off, none⟩ ∧ b < w.heap.size ∧ ∀ (j : Nat) (s : Str), l[j]? = some s → w.cell? ⟨b, off + j, none⟩ = some (.string (ba s)) := by
              rcases HL.out with h | h
              · subst h; simp at hnl
              · exact h
            have HC : Hid (∀ wx, Below w.heap.size w wx → ∀ (j : Nat) (s : Str), l[j]? = some s → wx.cell? ⟨b, off + j, none⟩ = some (.string (ba s))) := hid (fun wx hb j s hj => (hb.cell (p := ⟨b, off + j, none⟩) hbl).trans (hcell j s hj))
            obtain ⟨f, hf⟩ : ∃ s, l[n] = s := ⟨_, rfl⟩
            have hf? : l[n]? = some f := by rw [List.getElem?_eq_getElem hnl, hf]
            have hvf := HV.out f (List.mem_of_getElem? hf?)
            have hf16 := validC_len hvf
            have hc0 := HC.out wr HB.out n f hf?
            have cT := hid (tail_any (ba f) hf16 wr)
            obtain ⟨k, hk⟩ : ∃ k, (lastS f).length = k := ⟨_, rfl⟩
            have hk16 : k ≤ 16 := by have := (last_len f hf16).1; omega
            have hLs : (ba (lastS f)).size = k := hk
            rw [show lst (ba f) = f from rfl] at cT
            generalize ba (lastS f) = LA at cT hLs
            generalize ba (preS f) = FR at cT
            have HK := hid hk
            have HF := hid hf?
            have hw1 : IntKind.i64.wrap ((n : Int) + 1) = (n : Int) + 1 := IntWalk.i64_in _ (by omega)
            clear hcell hf hk hf? hvf
            go_wp2_with fail
            refine cT.out.mono ?_
            rintro e w1 ⟨rfl, q1, rfl⟩
            have HB1 : Hid (Below w.heap.size w (wr.drewN q1)) := hid (below_drewN HB.out _)
            clear hc0 cT
            generalize wr.drewN q1 = w1 at HB1 ⊢
            have hstart : Hid (RunAt f (l.drop (n + 1)) 1 f (l.drop (n + 1))) := hid (RunAt.start _ _)
            go_upto_block 6 with fail
            go_cut [10] (fun ev wx => ∃ m : Nat, ev = .int .i64 (m : Int) ∧ n < m ∧ m ≤ l.length ∧ Hid (aheadM (f :: l.drop (n + 1)) = m - n) ∧ Hid (Below w.heap.size w wx))
            case first =>
              go_wp2_with fail
              go_loopw [10] (fun ev wq => ∃ (m : Nat) (p : Str), ev = .int .i64 (m : Int) ∧ n < m ∧ m ≤ l.length ∧ Hid (RunAt f (l.drop (n + 1)) (m - n) p (l.drop m)) ∧ Hid (l[m - 1]? = some p) ∧ Hid (Below w.heap.size w wq)) (fun ev _ => l.length - (RowKit.intOf ev).toNat)
              case atStart => exact ⟨n + 1, f, by go_num, by omega, by omega, hid (by rw [show n + 1 - n = 1 by omega]; exact hstart.out), HF, HB1⟩
              case round =>
                obtain ⟨m, p, rfl, hnm, hml, hrun, hp, HBq⟩ := hrel
                by_cases hm : m < l.length
                · have hmz : (m : Int) < (l.length : Int) := by omega
                  have hmd : decide ((m : Int) < (l.length : Int)) = true := decide_eq_true hmz
                  obtain ⟨g, hg⟩ : ∃ s, l[m] = s := ⟨_, rfl⟩
                  have hg? : l[m]? = some g := by rw [List.getElem?_eq_getElem hm, hg]
                  have hdrop : Hid (l.drop m = g :: l.drop (m + 1)) := hid (by rw [List.drop_eq_getElem_cons hm, hg])
                  have hg16 := validC_len (HV.out g (List.mem_of_getElem? hg?))
                  have hp16 := validC_len (HV.out p (List.mem_of_getElem? hp.out))
                  obtain ⟨B, hB⟩ : ∃ B, followsB g p k = B := ⟨_, rfl⟩
                  have c40 : Hid (∀ wx, Below w.heap.size w wx → Calls Tryz.prog 62 #[.string (ba g), .string (ba p), .int .i64 (k : Int)] wx fun e w' => e = .returned (.bool B) ∧ Below w.heap.size w w') := hid (fun wx hb => by
                    rw [← hB]
                    exact (follows_any (ba g) (ba p) k hg16 hp16 hk16 wx).mono fun e w' ⟨he, hb'⟩ => ⟨he, hb.trans (hb'.mono hb.size)⟩)
                  have HB := hid hB
                  have HG := hid hg?
                  have q1 : IntKind.i64.wrap ((m : Int) - 1) = (m : Int) - 1 := IntWalk.i64_in _ (by omega)
                  have q2 : (1 : Int) ≤ (m : Int) := by omega
                  have q3 : ((m : Int) - 1).toNat = m - 1 := by omega
                  have q4 : (m : Int) - 1 < (l.length : Int) := by omega
                  have hk' : Below w.heap.size w wr.drew := HBq.out.drew
                  have HC2 : Hid (∀ wx, Below w.heap.size w wx → wx.cell? ⟨b, off + m, none⟩ = some (.string (ba g)) ∧ wx.cell? ⟨b, off + (m - 1), none⟩ = some (.string (ba p))) := hid (fun wx hb => ⟨HC.out wx hb m g HG.out, HC.out wx hb (m - 1) p hp.out⟩)
                  generalize ba g = G at c40 HC2
                  generalize ba p = PV at c40 HC2
                  clear hg hg? hB
                  obtain ⟨hcs1, hcs2⟩ := HC2.out wr HBq.out
                  obtain ⟨hcd1, hcd2⟩ := HC2.out wr.drew hk'
                  go_upto_region 18 with fail
                  go_still_tail 16, (by kernel_rfl)
                  change wpList _ _ _ _ _ wr.drew
                  go_wp2_with fail
                  refine (c40.out _ hk').mono ?_
                  rintro e w' ⟨rfl, hk2⟩
                  have HK' := hid hk2
                  clear hk' c40 hk2 hcs1 hcs2 hcd1 hcd2 HC2
                  cases B with
                  | true =>
                    go_wp2_with fail
                    go_roundw
                    case rel => exact ⟨m + 1, g, by go_num, by omega, by omega, hid (by rw [show m + 1 - n = (m - n) + 1 by omega]; refine RunAt.on (p := p) (by rw [← hdrop.out]; exact hrun.out) (by rw [HK.out]; exact HB.out)), HG, HK'⟩
                    case measure => simp [RowKit.intOf]; omega
                  | false =>
                    have hrn : Hid (aheadM (f :: l.drop (n + 1)) = m - n) := hid (RunAt.off (p := p) (by rw [← hdrop.out]; exact hrun.out) (by rw [HK.out]; exact HB.out))
                    go_wp2_with fail
                    go_meet
                    exact ⟨m, rfl, hnm, hml, hrn, HK'⟩
                · have hmz : ¬ (m : Int) < (l.length : Int) := by omega
                  have hmd : decide ((m : Int) < (l.length : Int)) = false := decide_eq_false hmz
                  obtain rfl : m = l.length := by omega
                  have hrn : Hid (aheadM (f :: l.drop (n + 1)) = l.length - n) := hid (RunAt.end_ (p := p) (by have := hrun.out; rwa [List.drop_length] at this))
                  have hcut0 : ∀ q, Hid (Below w.heap.size w (wr.drewN q)) := fun q => hid (below_drewN HBq.out q)
                  have HCUT := hid hcut0
                  clear hcut0
                  go_wp2
                  go_quiet (fail)
                  go_wp2
                  go_meet
                  exact ⟨l.length, rfl, hnm, hml, hrn, HCUT.out _⟩
            case rest =>
              obtain ⟨m, rfl, hnm, hml, hrn, HBc⟩ := hcut
              obtain ⟨p, hp⟩ : ∃ s, l[m - 1]? = some s := ⟨l[m - 1], List.getElem?_eq_getElem (by omega)⟩
              have hcn := HC.out wc HBc.out n f HF.out
              have hcm := HC.out wc HBc.out (m - 1) p hp
              have hp16 := validC_len (HV.out p (List.mem_of_getElem? hp))
              have hdr : l.drop n = f :: l.drop (n + 1) := by
                rw [List.drop_eq_getElem_cons hnl]
                congr 1
                have h := HF.out
                rw [List.getElem?_eq_getElem hnl] at h
                injection h
              have hps2 := hps.out
              rw [hdr] at hps2
              have hmem : ∀ x ∈ ps, x ∈ partsL l := fun x hx => by rw [hps2]; exact List.mem_append_left _ hx
              have hpl : ps.length ≤ 64 := by
                have h1 := partsL_len _ l (Nat.le_refl _)
                have h2 := congrArg List.length hps2
                rw [List.length_append] at h2
                omega
              have hOl : (semi ps).length ≤ 3000 := by
                have h1 := semi_len ps (fun x hx => parts_short _ l (Nat.le_refl _) HV.out x (hmem x hx))
                omega
              have hnx3 : 3 ≤ m - n → partsL l = (ps ++ [rangeT f (m - n)]) ++ partsL (l.drop m) ∧ rangeT f (m - n) = f ++ [46, 46] ++ p := fun h3 => by
                have ha := partsL_range f (l.drop (n + 1)) (by rw [hrn.out]; exact h3)
                rw [hrn.out, ← hdr, List.drop_drop, show n + (m - n) = m by omega] at ha
                refine ⟨by rw [hps2, ← hdr, ha]; simp, ?_⟩
                have hn := ahead_nth f (l.drop (n + 1)) (m - n - 2) (by rw [hrn.out]; omega)
                rw [List.getElem?_drop, show n + 1 + (m - n - 2) = m - 1 by omega, hp, show m - n - 2 + 1 = m - n - 1 by omega] at hn
                injection hn with hn
                unfold rangeT
                rw [← hn]
                simp
              have hnx1 : ¬ 3 ≤ m - n → partsL l = (ps ++ [f]) ++ partsL (l.drop (n + 1)) := fun h3 => by
                rw [hps2, partsL_one f _ (by rw [hrn.out]; exact h3)]
                simp
              have HN3 := hid hnx3
              have HN1 := hid hnx1
              have hss : (n = 0 → ∀ T, semi (ps ++ [T]) = semi ps ++ T) ∧ (¬ n = 0 → ∀ T, semi (ps ++ [T]) = semi ps ++ 59 :: T) := by
                refine ⟨fun h T => ?_, fun h T => ?_⟩
                · rw [hpn.out.2 h]; rfl
                · rw [semi_snoc, if_neg (fun e => h (hpn.out.1 e))]
              have HSS := hid hss
              have HOe : ∃ O, semi ps = O := ⟨_, rfl⟩
              obtain ⟨O, hO⟩ := HOe
              rw [hO] at hOl ⊢
              have HO := hid hO
              have q1 : IntKind.i64.wrap ((m : Int) - 1) = (m : Int) - 1 := IntWalk.i64_in _ (by omega)
              have q2 : (1 : Int) ≤ (m : Int) := by omega
              have q3 : ((m : Int) - 1).toNat = m - 1 := by omega
              have q4 : (m : Int) - 1 < (l.length : Int) := by omega
              have q5 : IntKind.i64.wrap ((m : Int) - (n : Int)) = (m : Int) - (n : Int) := IntWalk.i64_in _ (by omega)
              have addS := fun (X Y : Str) (h : X.length + Y.length ≤ 100000) => show ∀ w, (Op.stringOp .add (ba X) (ba Y)).run Tryz.prog w = .ok (.string (ba (X ++ Y))) w from fun w => by rw [run_string_add_sum (w := w) _ _ (by rw [ba_size, ba_size]; omega), ba_app]
              have ADD := hid addS
              have hf2 : (ba f).size = f.length := rfl
              clear hmem hdr hps2 hnx3 hnx1 hss hO addS hp hps
              by_cases h3 : 3 ≤ m - n
              · have h3z : (3 : Int) ≤ (m : Int) - (n : Int) := by omega
                obtain ⟨hnx, hT⟩ := HN3.out h3
                have b1 := ADD.out f [46, 46] (by rw [show ([46, 46] : Str).length = 2 from rfl]; have := validC_len (HV.out f (List.mem_of_getElem? HF.out)); omega)
                have b2 := ADD.out (f ++ [46, 46]) p (by rw [List.length_append, show ([46, 46] : Str).length = 2 from rfl]; have := validC_len (HV.out f (List.mem_of_getElem? HF.out)); omega)
                rw [show ba [46, 46] = (⟨#[46, 46]⟩ : ByteArray) from rfl] at b1
                rw [← hT] at b2
                have hTl : (rangeT f (m - n)).length ≤ 40 := by rw [hT, List.length_append, List.length_append, show ([46, 46] : Str).length = 2 from rfl]; have := validC_len (HV.out f (List.mem_of_getElem? HF.out)); omega
                obtain ⟨T, hTe⟩ : ∃ T, rangeT f (m - n) = T := ⟨_, rfl⟩
                rw [hTe] at b2 hnx hTl
                have HNX := hid hnx
                obtain ⟨F2, hF2⟩ : ∃ F2, ba (f ++ [46, 46]) = F2 := ⟨_, rfl⟩
                rw [hF2] at b1 b2
                obtain ⟨PV, hPV⟩ : ∃ PV, ba p = PV := ⟨_, rfl⟩
                rw [hPV] at b2 hcm
                obtain ⟨FV, hFV⟩ : ∃ FV, ba f = FV := ⟨_, rfl⟩
                rw [hFV] at b1 hcn
                by_cases hn0 : n = 0
                · have hn0z : ¬ (0 : Int) < (n : Int) := by omega
                  have hsn := hid (HSS.out.1 hn0)
                  have b3 := ADD.out O T (by omega)
                  clear hnx hT hTe hF2 hPV hFV hn0 h3
                  go_wp2_with fail
                  go_quiet (fail)
                  have HBd : Hid (Below w.heap.size w (wc.drewN nq)) := hid (below_drewN HBc.out nq)
                  go_wp2
                  go_roundw
                  case rel => exact ⟨m, ps ++ [T], by rw [hsn.out, HO.out], rfl, hml, HNX, hid (by simp; omega), HBd⟩
                  case measure => simp [RowKit.intOf]; omega
                · have hn0z : (0 : Int) < (n : Int) := by omega
                  have hsn := hid (HSS.out.2 hn0)
                  have b0 := ADD.out O [59] (by rw [List.length_singleton]; omega)
                  rw [show ba [59] = (⟨#[59]⟩ : ByteArray) from rfl] at b0
                  have b3 := ADD.out (O ++ [59]) T (by rw [List.length_append, List.length_singleton]; omega)
                  rw [List.append_assoc, List.singleton_append] at b3
                  clear hnx hT hTe hF2 hPV hFV hn0 h3
                  go_wp2_with fail
                  go_quiet (fail)
                  have HBd : Hid (Below w.heap.size w (wc.drewN nq)) := hid (below_drewN HBc.out nq)
                  go_wp2
                  go_roundw
                  case rel => exact ⟨m, ps ++ [T], by rw [hsn.out, HO.out], rfl, hml, HNX, hid (by simp; omega), HBd⟩
                  case measure => simp [RowKit.intOf]; omega
              · have h3z : ¬ (3 : Int) ≤ (m : Int) - (n : Int) := by omega
                have HNX := hid (HN1.out h3)
                have hfl := validC_len (HV.out f (List.mem_of_getElem? HF.out))
                obtain ⟨T, hTe⟩ : ∃ T, f = T := ⟨_, rfl⟩
                by_cases hn0 : n = 0
                · have hn0z : ¬ (0 : Int) < (n : Int) := by omega
                  have hsn := hid (HSS.out.1 hn0)
                  have b3 := ADD.out O f (by omega)
                  clear hn0 h3 hTe
                  go_wp2
                  go_roundw
                  case rel => exact ⟨n + 1, ps ++ [f], by rw [hsn.out, HO.out], by go_num, by omega, HNX, hid (by simp), HBc⟩
                  case measure => simp [RowKit.intOf]; omega
                · have hn0z : (0 : Int) < (n : Int) := by omega
                  have hsn := hid (HSS.out.2 hn0)
                  have b0 := ADD.out O [59] (by rw [List.length_singleton]; omega)
                  rw [show ba [59] = (⟨#[59]⟩ : ByteArray) from rfl] at b0
                  have b3 := ADD.out (O ++ [59]) f (by rw [List.length_append, List.length_singleton]; omega)
                  rw [List.append_assoc, List.singleton_append] at b3
                  clear hn0 h3 hTe
                  go_wp2
                  go_roundw
                  case rel => exact ⟨n + 1, ps ++ [f], by rw [hsn.out, HO.out], by go_num, by omega, HNX, hid (by simp), HBc⟩
                  case measure => simp [RowKit.intOf]; omega
          · obtain rfl : n = l.length := by omega
            have hT2 : Hid (TX = ba (semi ps)) := hid (by rw [HTJ.out, hps.out, List.drop_length, partsL_nil, List.append_nil])
            go_wp2
            go_ret2
            rw [hT2.out]
            exact ⟨rfl, HB.out⟩
end Go.Proofs.YtlgmanbilaminaaGreatDoor.S3
