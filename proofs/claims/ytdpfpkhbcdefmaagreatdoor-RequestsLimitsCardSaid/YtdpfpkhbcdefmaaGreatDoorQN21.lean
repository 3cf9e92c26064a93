/-
  The program's Write of requests: Write of codelists, writeFields, Write of package entries, Write. Conditions: the requests lie in memory; the variables hold what their text lays.
-/
import Derived.Test.YtdpfpkhbcdefmaaGreatDoorQN01
import Derived.Test.YtdpfpkhbcdefmaaGreatDoorQN02
import Derived.Test.YtdpfpkhbcdefmaaGreatDoorQN03
import Derived.Test.YtdpfpkhbcdefmaaGreatDoorQN04
import Derived.Test.YtdpfpkhbcdefmaaGreatDoorQN05
import Derived.Test.YtdpfpkhbcdefmaaGreatDoorQN06
import Derived.Test.YtdpfpkhbcdefmaaGreatDoorQN07
import Derived.Test.YtdpfpkhbcdefmaaGreatDoorQN08
import Derived.Test.YtdpfpkhbcdefmaaGreatDoorQN09
import Derived.Test.YtdpfpkhbcdefmaaGreatDoorQN10
import Derived.Test.YtdpfpkhbcdefmaaGreatDoorQN13
import Derived.Test.YtdpfpkhbcdefmaaGreatDoorQN18
import Derived.Test.YtdpfpkhbcdefmaaGreatDoorQN19
import Derived.Test.YtdpfpkhbcdefmaaGreatDoorProg
import Derived.WalkKit
import Derived.WalkSpells
import Derived.WalkLawsBesides
import Derived.Lib.Hide
import Derived.Deep.QuietTactic
import Derived.BigQuiet
import Derived.Laws.Rows
import Derived.OwnWalk
import Derived.Lib.BufferWrite
import Derived.Lib.UnsafeStr
import Derived.Laws.IdiomStrings
import Derived.Laws.BytesArg
import Derived.Laws.BytesString
import Derived.Laws.OwnMore
import Derived.Lib.IndexLaws
import Derived.Lib.ItoaNum
import Derived.Lib.Atoi
import Derived.Lib.Bytealg
import Derived.RangeFuncNested
import Derived.RangeFuncBound
import Derived.RangeFuncCalls
import Derived.RangeFuncLeaves
import Derived.Shelf.Abstract
import Derived.Shelf.RegionOpen
import Derived.OwnWalkIn
import Derived.Lib.SlTrimSet
import Derived.Shelf.Strings.Builder1
import Derived.Shelf.Strings.Builder2
import Derived.Shelf.Strings.OnBuilder
import Derived.Shelf.Strings.Trim
import Derived.Shelf.Small.Utf8
import Derived.Shelf.Small.Bits
import Derived.Shelf.Small.Strs
import Derived.Shelf.Small.Wraps
import Derived.Shelf.Strings.BuilderF
import Derived.Shelf.Strings.BuilderK
import Derived.Shelf.Strings.Builder2Cap
import Derived.Shelf.Strconv.Atoi
import Derived.Shelf.Strconv.Itoa0
import Derived.Shelf.Strconv.Itoa1
import Derived.Shelf.LaysM
import Derived.Shelf.Strconv.Itoa2
import Derived.Shelf.Strconv.Itoa3
import Derived.Shelf.Strconv.AtoiErrFast
import Derived.Shelf.Strconv.ParseIntEmpty
import Derived.Shelf.Strconv.AtoiFail
import Derived.Shelf.Strconv.Clone
import Derived.Shelf.Strconv.SyntaxError
import Derived.Shelf.LaysC
import Derived.Shelf.Strconv.ToError
import Derived.Shelf.Strconv.AtoiErr
import Derived.Shelf.Strings.Search1
import Derived.Shelf.Strings.Search2
import Derived.Shelf.Strings.Search3
import Derived.Shelf.Strings.Cut
import Derived.Shelf.Strings.Shaped
import Derived.Shelf.Strings.Prefix
import Derived.Shelf.Strings.Runes
import Derived.Shelf.Strings.AsciiSet
import Derived.Shelf.Bits.Mul64
import Derived.Shelf.Strings.Repeat
import Derived.Shelf.Unicode.DecodeSlow
import Derived.Shelf.Strings.BuilderCap
import Derived.Shelf.Slices.Turned
import Derived.Ground.Names2Prog
import Derived.Shelf.Slices.Clone
import Derived.Ground.SlsfProg
import Derived.Shelf.SlSortCmp.Insertion
import Derived.Shelf.SlSortCmp.Insertion1
import Derived.Shelf.Strings.SlTrimAscii
import Derived.Lib.AtoiErrMem
import Derived.Handy
import Derived.Laws.ResultCell
import Derived.RegionTactic
import Derived.Lib.Repeat
import Derived.Deep.RegionHeld3
import Derived.Lib.SlicesS
import Derived.TacticsInMore
import Derived.LoopNIn
import Derived.LoopIn
import Derived.Laws.BitsAllLaws
import Derived.Laws.BitsLemmas
import Derived.Deep.MidRow
import Derived.Deep.DeepCutAuto
import Derived.Lib.Join
import Derived.Laws.Concat
import Derived.Deep.RegionLaw
import Derived.Maps.AppendAt
import Derived.Lib.AppendZerosOnto
import Derived.Lib.SliceRun
import Derived.Deep.LoopGhost
import Derived.Maps.OwnSet
import Derived.Maps.Range
import Derived.DeepKeys4
import Derived.Maps.OwnOps
import Derived.Maps.Ext
import Derived.Lib.AppendIntMem
set_option linter.unusedVariables false
namespace Go.Proofs.YtdpfpkhbcdefmaaGreatDoor.S12
open Go Go.Proofs Go.RowKit Go.Lib Go.Proofs.YtdpfpkhbcdefmaaGreatDoor

set_option maxHeartbeats 2000000 in
theorem cwrite_any (A : Option Addr) (l : List Str) (c : Nat) (w : World) (h : S3.StrsIn w (fun b => b < w.heap.size) A l) (hlc : l.length ≤ c) (hc : c ≤ 9223372036854775807) (hk : S3.checkM l = 0) (hE : S3.Env w) :
    Calls Tryz.prog 60 #[.slice A l.length c] w (Says (.string (ba (S3.joinM l))) w) := by
  have cJ := S3.cjoin_any A l c w h hlc hc hE
  unfold S3.JoinOut at cJ
  rw [if_pos hk, hk] at cJ
  unfold Says
  rw [show S3.ba (S3.joinM l) = ba (S3.joinM l) from rfl] at cJ
  obtain ⟨J, hJ⟩ : ∃ J, ba (S3.joinM l) = J := ⟨_, rfl⟩
  rw [hJ] at cJ ⊢
  obtain ⟨n, hn⟩ : ∃ n, l.length = n := ⟨_, rfl⟩
  rw [hn] at cJ ⊢
  have CJ := hid cJ
  clear cJ hJ hn h hlc hk hE
  go_enter Tryz.func60, Tryz.ntmps60
  go_wp2_with fail
  refine CJ.out.mono ?_
  rintro e w1 ⟨rfl, hb⟩
  have HB := hid hb
  clear hb
  go_wp2
  go_ret
  exact ⟨rfl, HB.out⟩

/-- What holds while the fields of a request are written. -/
structure KQ (w : World) (v0 v1 v2 v3 : Value) (W : World) : Prop where
  b : Below w.heap.size w W
  x : Box4 W w.heap.size v0 v1 v2 v3
theorem KQ.next {w W W' : World} {v0 v1 v2 v3 : Value} (h : KQ w v0 v1 v2 v3 W) (hb : Below W.heap.size W W') : KQ w v0 v1 v2 v3 W' := ⟨h.b.trans (hb.mono h.b.size), h.x.next hb⟩

set_option maxHeartbeats 16000000 in
set_option maxRecDepth 100000 in
theorem qfields_any (x : ReqD) (q : ReqA) (w : World) (h : ReqIn w (fun k => k < w.heap.size) x q) (hx : reqM x = 0) (hv : S3.checkM x.l = 0) (hE : S3.Env w) :
    Calls Tryz.prog 35 #[reqV x q] w (S3.RowOut (rowQ x) w) := by
  obtain ⟨_, _, p1, p9, _, _⟩ := reqM_all hx
  obtain ⟨st, co, p, l⟩ := x
  obtain ⟨A, c⟩ := q
  obtain ⟨ht, ht1, ht2⟩ := h
  dsimp only at ht ht1 ht2 hv p1 p9
  unfold reqV rowQ S3.RowOut
  dsimp only
  have hk0 : KQ w (.string (ba st)) (.string (ba co)) (.int .i64 p) (.slice A l.length c) (w.alloc (.cells #[.string (ba st), .string (ba co), .int .i64 p, .slice A l.length c] 61)) := ⟨(Below.refl _ _).alloc (Nat.le_refl _) _, Box4.new _ _ _ _ _⟩
  have cI := hid (fun (w' : World) (hb : Below w.heap.size w w') => itoa4_any p (by omega) (by omega) w' (hE.below hb))
  have cW := hid (fun (w' : World) (hb : Below w.heap.size w w') => cwrite_any A l c w' ((ht.below hb).mono (fun k hk => Nat.lt_of_lt_of_le hk hb.size)) ht1 ht2 hv (hE.below hb))
  unfold Says at cI cW
  obtain ⟨X1, hX1⟩ : ∃ X, ba st = X := ⟨_, rfl⟩
  obtain ⟨X2, hX2⟩ : ∃ X, ba co = X := ⟨_, rfl⟩
  obtain ⟨X3, hX3⟩ : ∃ X, ba (decDigits p.toNat) = X := ⟨_, rfl⟩
  obtain ⟨X4, hX4⟩ : ∃ X, ba (S3.joinM l) = X := ⟨_, rfl⟩
  have hrow : Hid (S3.strVals [st, co, decDigits p.toNat, S3.joinM l] = [.string X1, .string X2, .string X3, .string X4]) := hid (by rw [← hX1, ← hX2, ← hX3, ← hX4]; rfl)
  rw [hX3] at cI
  rw [hX4] at cW
  rw [hX1, hX2] at hk0 ⊢
  obtain ⟨n, hn⟩ : ∃ F, l.length = F := ⟨_, rfl⟩
  rw [hn] at hk0 cW ⊢
  have CI := cI
  have CW := cW
  have HK0 := hid hk0
  clear ht cI cW hX1 hX2 hX3 hX4 hn hk0 hE ht1 hv hx p1 p9
  go_enter Tryz.func35, Tryz.ntmps35
  go_wp2_with fail
  have hk := HK0.out
  clear HK0
  generalize World.alloc _ _ = wx at hk ⊢
  have HK1 := hid hk
  clear hk
  refine wp_region_held_drew (S := KQ w (.string X1) (.string X2) (.int .i64 p) (.slice A n c)) (by kernel_rfl) (HK1.out.next (Below.refl _ _).drew) (fun hHeld => ?_)
  (refine wpAnyH_take (i := 0) (oi := _) (v := ?_) rfl (by kernel_rfl) (by kernel_rfl) (by kernel_rfl) (fun _ _ _ h => h) (Or.inl ⟨by rfl, ?_⟩) (by assumption) ?_; rotate_left; (intro wS hSw; obtain ⟨x0, x1, x2, x3⟩ := hSw.x.cells; (try simp only [List.getElem_toArray, List.getElem_cons_zero]); go_simp; (try with_reducible rfl)))
  try simp only [List.getElem_toArray, List.getElem_cons_zero, Act.put, List.setIfInBounds_toArray, List.set_cons_zero, List.set_cons_succ]
  (refine wpAnyH_take (i := 1) (oi := _) (v := ?_) rfl (by kernel_rfl) (by kernel_rfl) (by kernel_rfl) (fun _ _ _ h => h) (Or.inl ⟨by rfl, ?_⟩) (by assumption) ?_; rotate_left; (intro wS hSw; obtain ⟨x0, x1, x2, x3⟩ := hSw.x.cells; (try simp only [List.getElem_toArray, List.getElem_cons_succ, List.getElem_cons_zero]); go_simp; (try with_reducible rfl)))
  try simp only [List.getElem_toArray, List.getElem_cons_succ, List.getElem_cons_zero, Act.put, List.setIfInBounds_toArray, List.set_cons_zero, List.set_cons_succ]
  (refine wpAnyH_take (i := 2) (oi := _) (v := ?_) rfl (by kernel_rfl) (by kernel_rfl) (by kernel_rfl) (fun _ _ _ h => h) (Or.inl ⟨by rfl, ?_⟩) (by assumption) ?_; rotate_left; (intro wS hSw; obtain ⟨x0, x1, x2, x3⟩ := hSw.x.cells; (try simp only [List.getElem_toArray, List.getElem_cons_succ, List.getElem_cons_zero]); go_simp; (try with_reducible rfl)))
  try simp only [List.getElem_toArray, List.getElem_cons_succ, List.getElem_cons_zero, Act.put, List.setIfInBounds_toArray, List.set_cons_zero, List.set_cons_succ]
  (refine wpAnyH_take (i := 3) (oi := _) (v := ?_) rfl (by kernel_rfl) (by kernel_rfl) (by kernel_rfl) (fun _ _ _ h => h) (Or.inl ⟨by rfl, ?_⟩) (by assumption) ?_; rotate_left; (intro wS hSw; obtain ⟨x0, x1, x2, x3⟩ := hSw.x.cells; (try simp only [List.getElem_toArray, List.getElem_cons_succ, List.getElem_cons_zero]); go_simp; (try with_reducible rfl)))
  try simp only [List.getElem_toArray, List.getElem_cons_succ, List.getElem_cons_zero, Act.put, List.setIfInBounds_toArray, List.set_cons_zero, List.set_cons_succ]
  (refine wpAnyH_take (i := 4) (oi := _) (v := ?_) rfl (by kernel_rfl) (by kernel_rfl) (by kernel_rfl) (fun _ _ _ h => h) (Or.inl ⟨by rfl, ?_⟩) (by assumption) ?_; rotate_left; (intro wS hSw; obtain ⟨x0, x1, x2, x3⟩ := hSw.x.cells; (try simp only [List.getElem_toArray, List.getElem_cons_succ, List.getElem_cons_zero]); go_simp; (try with_reducible rfl)))
  try simp only [List.getElem_toArray, List.getElem_cons_succ, List.getElem_cons_zero, Act.put, List.setIfInBounds_toArray, List.set_cons_zero, List.set_cons_succ]
  (refine wpAnyH_take (i := 5) (oi := _) (v := ?_) rfl (by kernel_rfl) (by kernel_rfl) (by kernel_rfl) (fun _ _ _ h => h) (Or.inl ⟨by rfl, ?_⟩) (by assumption) ?_; rotate_left; (intro wS hSw; obtain ⟨x0, x1, x2, x3⟩ := hSw.x.cells; (try simp only [List.getElem_toArray, List.getElem_cons_succ, List.getElem_cons_zero]); go_simp; (try with_reducible rfl)))
  try simp only [List.getElem_toArray, List.getElem_cons_succ, List.getElem_cons_zero, Act.put, List.setIfInBounds_toArray, List.set_cons_zero, List.set_cons_succ]
  (refine wpAnyH_take (i := 7) (oi := _) (v := ?_) rfl (by kernel_rfl) (by kernel_rfl) (by kernel_rfl) (fun _ _ _ h => h) (Or.inl ⟨by rfl, ?_⟩) (by assumption) ?_; rotate_left; (intro wS hSw; obtain ⟨x0, x1, x2, x3⟩ := hSw.x.cells; (try simp only [List.getElem_toArray, List.getElem_cons_succ, List.getElem_cons_zero]); go_simp; (try with_reducible rfl)))
  try simp only [List.getElem_toArray, List.getElem_cons_succ, List.getElem_cons_zero, Act.put, List.setIfInBounds_toArray, List.set_cons_zero, List.set_cons_succ]
  (refine wpAnyH_take (i := 8) (oi := _) (v := ?_) rfl (by kernel_rfl) (by kernel_rfl) (by kernel_rfl) (fun _ _ _ h => h) (Or.inl ⟨by rfl, ?_⟩) (by assumption) ?_; rotate_left; (intro wS hSw; obtain ⟨x0, x1, x2, x3⟩ := hSw.x.cells; (try simp only [List.getElem_toArray, List.getElem_cons_succ, List.getElem_cons_zero]); go_simp; (try with_reducible rfl)))
  try simp only [List.getElem_toArray, List.getElem_cons_succ, List.getElem_cons_zero, Act.put, List.setIfInBounds_toArray, List.set_cons_zero, List.set_cons_succ]
  (refine wpAnyH_ready (rs := [6]) (by kernel_rfl) (by simp) ?_; refine AllReadyH.cons (o := _) rfl (fun K hK => ?_) AllReadyH.nil; (try simp only [List.getElem_toArray, List.getElem_cons_succ, List.getElem_cons_zero]); go_simp; go_at_call 59; refine (CI.out _ hHeld.b).mono ?_; rintro e wz ⟨rfl, hbz⟩; have hHeld := hHeld.next hbz; have HWZ := hid hHeld.b.size; clear hbz; go_wp2_with fail; refine hK.out _ _ hHeld (fun hHeld => ?_); clear hK K)
  try simp only [List.getElem_toArray, List.getElem_cons_succ, List.getElem_cons_zero, Act.put, List.setIfInBounds_toArray, List.set_cons_zero, List.set_cons_succ]
  (refine wpAnyH_ready (rs := [9]) (by kernel_rfl) (by simp) ?_; refine AllReadyH.cons (o := _) rfl (fun K hK => ?_) AllReadyH.nil; (try simp only [List.getElem_toArray, List.getElem_cons_succ, List.getElem_cons_zero]); go_simp; go_at_call 60; refine (CW.out _ hHeld.b).mono ?_; rintro e wz ⟨rfl, hbz⟩; have hHeld := hHeld.next hbz; have HWZ := hid hHeld.b.size; clear hbz; go_wp2_with fail; refine hK.out _ _ hHeld (fun hHeld => ?_); clear hK K)
  try simp only [List.getElem_toArray, List.getElem_cons_succ, List.getElem_cons_zero, Act.put, List.setIfInBounds_toArray, List.set_cons_zero, List.set_cons_succ]
  (refine wpAnyH_ready (rs := [10]) (by kernel_rfl) (by simp) ?_; refine AllReadyH.cons (o := _) rfl (fun K hK => ?_) AllReadyH.nil; (try simp only [List.getElem_toArray, List.getElem_cons_succ, List.getElem_cons_zero]); go_simp; go_wp2_with fail; refine hK.out _ _ (hHeld.next ((Below.refl _ _).alloc (Nat.le_refl _) _)) (fun hHeld => ?_); clear hK K)
  try simp only [List.getElem_toArray, List.getElem_cons_succ, List.getElem_cons_zero, Act.put, List.setIfInBounds_toArray, List.set_cons_zero, List.set_cons_succ]
  (refine wpAnyH_take (i := 11) (oi := _) (v := ?_) rfl (by kernel_rfl) (by kernel_rfl) (by kernel_rfl) (fun _ _ _ h => h) (Or.inl ⟨by rfl, ?_⟩) (by assumption) ?_; rotate_left; (intro wS hSw; obtain ⟨x0, x1, x2, x3⟩ := hSw.x.cells; (try simp only [List.getElem_toArray, List.getElem_cons_succ, List.getElem_cons_zero]); go_simp; (try with_reducible rfl)))
  try simp only [List.getElem_toArray, List.getElem_cons_succ, List.getElem_cons_zero, Act.put, List.setIfInBounds_toArray, List.set_cons_zero, List.set_cons_succ]
  refine wpAnyH_done (by kernel_rfl) ?_ _
  go_wp2_with fail
  go_ret
  refine ⟨⟨_, rfl, ?_⟩, hHeld.b⟩
  unfold S3.StrRow
  rw [hrow.out]
  exact World.ownsRow_lit wz #[.string X1, .string X2, .string X3, .string X4] 4 HWZ.out (by decide) rfl

set_option maxHeartbeats 16000000 in
set_option maxRecDepth 100000 in
theorem ewrite_any (A : Option Addr) (l : List ReqD) (c : Nat) (w : World) (h : ReqsIn w (fun k => k < w.heap.size) A l) (h16 : l.length ≤ 400) (hok : ∀ r ∈ l, reqM r = 0) (hE : S3.Env w) :
    Calls Tryz.prog 34 #[.slice A l.length c, .int .i64 0, .func (.func 35) #[] #[]] w (WriteOut (l.map rowQ, 0) w) := by
  have eg : ∀ args w, (callFunc 35 args).run Tryz.prog w = .ok (.enter 35 args) w := enters_of Tryz.func35 (by kernel_rfl) rfl
  obtain ⟨iS, hiS, hzS, hsS, hbS⟩ := info_parts infoStrs7
  unfold WriteOut
  have HH := hid (fun (w' : World) (hb : Below w.heap.size w w') => h.below hb)
  have HE := hid (fun (w' : World) (hb : Below w.heap.size w w') => hE.below hb)
  have HOK := hid hok
  clear h hE hok
  go_enter Tryz.func34, Tryz.ntmps34
  go_wp2
  go_loopw [8, 16] (fun v iv wr => ∃ (i : Nat) (L : List RowA), iv = .int .i64 (i : Int) ∧ i ≤ l.length ∧ Hid (L.map (·.1) = (l.take i).map rowQ) ∧ Hid (RowsRow wr w.heap.size v L) ∧ Hid (Below w.heap.size w wr)) (fun _ iv _ => l.length - (RowKit.intOf iv).toNat)
  case atStart => exact ⟨0, [], rfl, Nat.zero_le _, hid rfl, hid (RowsRow.nil _ _), hid (Below.refl _ _)⟩
  case round =>
    obtain ⟨i, L, rfl, hi, hL, hrow, hB⟩ := hrel
    obtain ⟨Ar, cr, hvr, _⟩ := hrow.out.rowsIn
    subst hvr
    have hLl : L.length = i := by
      have := congrArg List.length hL.out
      rw [List.length_map, List.length_map, List.length_take] at this
      omega
    have HLL := hid hLl
    clear hLl
    by_cases hlt : i < l.length
    · have hltz : (i : Int) < (l.length : Int) := by omega
      obtain ⟨fb, fo, q, rfl, hfb, hri, y0, y1, y2, y3⟩ := (HH.out _ hB.out).at_ hlt
      have hroom := HOK.out _ (List.getElem_mem hlt)
      have hst : (l.take (i + 1)).map rowQ = L.map (·.1) ++ [rowQ l[i]] := by rw [hL.out, List.take_succ_eq_append_getElem hlt, List.map_append]; rfl
      have cW : ∀ W, Below wr.heap.size wr W → Calls Tryz.prog 35 #[reqV l[i] q] W (S3.RowOut (rowQ l[i]) W) :=
        fun W hb => qfields_any l[i] q W ((hri.below (hb.mono hB.out.size)).mono (fun k hk => Nat.lt_of_lt_of_le hk (Nat.le_trans hB.out.size hb.size))) hroom (check_tail (reqM_all hroom).2.2.2.2.2).1 (HE.out W (hB.out.trans (hb.mono hB.out.size)))
      obtain ⟨RW, hRW⟩ : ∃ r, rowQ l[i] = r := ⟨_, rfl⟩
      rw [hRW] at cW hst
      unfold reqV S3.RowOut at cW
      obtain ⟨X1, hX1⟩ : ∃ X, ba l[i].s = X := ⟨_, rfl⟩
      obtain ⟨X2, hX2⟩ : ∃ X, ba l[i].c = X := ⟨_, rfl⟩
      obtain ⟨PP, hPP⟩ : ∃ X, l[i].p = X := ⟨_, rfl⟩
      obtain ⟨T1, hT1⟩ : ∃ F, l[i].l.length = F := ⟨_, rfl⟩
      rw [hX1] at y0 cW
      rw [hX2] at y1 cW
      rw [hPP] at y2 cW
      rw [hT1] at y3 cW
      have hb1 := (Below.refl wr.heap.size wr).alloc (Nat.le_refl _) (.cells #[.string X1, .string X2, .int .i64 PP, .slice q.1 T1 q.2] 61)
      have hx1 := Box4.new wr (.string X1) (.string X2) (.int .i64 PP) (.slice q.1 T1 q.2)
      have CW := hid (cW _ hb1)
      have HB1 := hid hb1
      have HX1 := hid hx1
      have HST := hid hst
      clear hRW hX1 hX2 hPP hT1 hb1 hx1 cW hst hri hroom hfb
      go_wp2_with fail
      generalize wr.alloc (.cells #[.string X1, .string X2, .int .i64 PP, .slice q.1 T1 q.2] 61) = w1 at HB1 HX1 CW ⊢
      obtain ⟨z0, z1, z2, z3⟩ := HX1.out.cells
      go_wp2_with fail
      refine CW.out.mono ?_
      rintro e w2 ⟨⟨vi, rfl, hrowi⟩, hb2⟩
      obtain ⟨Ai, ci, rfl, hl5, hc5, _⟩ := hrowi.strsIn
      have HB2 := hid hb2
      have HRowi := hid hrowi
      have hrow2 : w2.ownsRow w.heap.size 40 1 (.slice Ar L.length cr) L.length (L.map rowV) := row_under (row_under hrow.out.1 HB1.out) HB2.out
      have HRow2 := hid hrow2
      have HC3 : Hid (L.length + 1 ≤ maxLen) := by unfold maxLen; exact hid (by have := HLL.out; omega)
      have HC4 : Hid ((L.length + 1) * 24 ≤ 140737488355328) := hid (by have := HLL.out; omega)
      have HSZ : Hid (w.heap.size ≤ w2.heap.size) := hid (by have := hB.out.size; have := HB1.out.size; have := HB2.out.size; omega)
      have HC5 : Hid (∀ o : Obj, w.heap.size ≤ (w2.alloc o).heap.size) := hid (fun o => by have := HSZ.out; simp; omega)
      clear hb2 hrowi hrow2 y0 y1 y2 y3 hl5 hc5 z0 z1 z2 z3
      go_wp2_with (at_builtin; refine wpList_append_own_at _ rfl _ _ 28 rfl w.heap.size 40 iS (.slice none 0 0) 1 24 Tryz.underlying28 hiS hzS hsS hbS rfl (by decide) _ L.length (L.map rowV) rfl (World.ownsRow.alloc HRow2.out _) ⟨w2.heap.size, 0, none⟩ 1 1 [.slice Ai RW.length ci] rfl rfl (one_new _ _ _) (one_slice _ _ _) HC3.out HC4.out (HC5.out _) ?_)
      intro v' w4 hown' hgrow _ hat
      have hsn := RowsRow.snoc hrow.out (by have := hB.out.size; have := HB1.out.size; omega) HB1.out HB2.out HRowi.out ((Below.refl w2.heap.size w2).alloc (Nat.le_refl _) _) hown' hgrow (hat.imp id (fun h => h.trans (by simp)))
      have hg' := grownBy_of_alloc hgrow
      have hb24 : Below w.heap.size w2 w4 := (Below.refl _ w2).grown hg' HSZ.out (fun k hk => (World.ownsRow.lt HRow2.out k hk).1)
      have HB4 := hid (((hB.out.trans (HB1.out.mono hB.out.size)).trans (HB2.out.mono (by have := hB.out.size; have := HB1.out.size; omega))).trans hb24)
      have HSN := hid hsn
      have HL2 : Hid ((L ++ [(RW, Ai, ci)]).map (·.1) = (l.take (i + 1)).map rowQ) := hid (by rw [HST.out, List.map_append]; rfl)
      clear hb24 hg' hgrow hown' hsn hat
      go_wp2_with fail
      go_roundw
      case rel => exact ⟨i + 1, L ++ [(RW, Ai, ci)], by go_num, by omega, HL2, HSN, HB4⟩
      case measure => simp [RowKit.intOf]; omega
    · have hltz : ¬ (i : Int) < (l.length : Int) := by omega
      have hL2 : Hid (L.map (·.1) = l.map rowQ) := hid (by rw [hL.out, List.take_of_length_le (by omega)])
      go_wp2
      go_ret2
      exact ⟨⟨_, L, hL2.out, rfl, hrow.out⟩, hB.out⟩
set_option maxHeartbeats 4000000 in
theorem ewriteE_any (A : Option Addr) (n c : Nat) (R : Int) (hR : R ≠ 0) (f : Value) (w : World) :
    Calls Tryz.prog 34 #[.slice A n c, .int .i64 R, f] w (WriteOut ([], R) w) := by
  unfold WriteOut
  have hR1 : (R != 0) = true := by simpa using hR
  have hR2 : (R == 0) = false := by simpa using hR
  go_enter Tryz.func34, Tryz.ntmps34
  go_wp2
  go_ret2
  exact ⟨⟨_, [], rfl, rfl, RowsRow.nil _ _⟩, Below.refl _ _⟩
set_option maxHeartbeats 8000000 in
theorem qwrite_any (A : Option Addr) (l : List ReqD) (c : Nat) (w : World) (h : ReqsIn w (fun k => k < w.heap.size) A l) (hE : S3.Env w) :
    Calls Tryz.prog 8 #[.slice A l.length c] w (WriteOut (writeQ l) w) := by
  have cV := qvalid_any A l c w h hE
  have cW : ∀ W, Below w.heap.size w W → Calls Tryz.prog 34 #[.slice A l.length c, .int .i64 (validQ l), .func (.func 35) #[] #[]] W (WriteOut (writeQ l) W) := fun W hb => by
    unfold writeQ
    by_cases h0 : validQ l = 0
    · rw [if_neg (by simpa using h0), h0]
      exact ewrite_any A l c W ((h.below hb).mono (fun k hk => Nat.lt_of_lt_of_le hk hb.size)) (validQ_ok h0).1 (validQ_ok h0).2 (hE.below hb)
    · rw [if_pos h0]
      exact ewriteE_any A l.length c (validQ l) h0 _ W
  unfold Says at cV
  unfold WriteOut at cW ⊢
  obtain ⟨R, hR⟩ : ∃ R, validQ l = R := ⟨_, rfl⟩
  obtain ⟨⟨o1, o2⟩, hO⟩ : ∃ R, writeQ l = R := ⟨_, rfl⟩
  rw [hR] at cV cW
  rw [hO] at cW ⊢
  obtain ⟨N, hN⟩ : ∃ N, l.length = N := ⟨_, rfl⟩
  rw [hN] at cV cW ⊢
  have CV := hid cV
  have CW := hid cW
  clear cV cW hR hO hN h hE
  go_enter Tryz.func8, Tryz.ntmps8
  go_wp2_with fail
  refine CV.out.mono ?_
  rintro e w1 ⟨rfl, hb1⟩
  have HB1 := hid hb1
  clear hb1
  go_wp2_with fail
  refine (CW.out _ HB1.out).mono ?_
  rintro e w2 ⟨⟨v, L, hL, rfl, hrow⟩, hb2⟩
  have HR : Hid (∃ v' L', L'.map (·.1) = o1 ∧ Ending.returned (.tuple #[v, .int .i64 o2]) = .returned (.tuple #[v', .int .i64 o2]) ∧ RowsRow w2 w.heap.size v' L') := hid ⟨v, L, hL, rfl, hrow.low HB1.out.size⟩
  have HB2 := hid (HB1.out.trans (hb2.mono HB1.out.size))
  clear hL hrow hb2
  go_wp2
  go_ret2
  exact ⟨HR.out, HB2.out⟩
end Go.Proofs.YtdpfpkhbcdefmaaGreatDoor.S12

