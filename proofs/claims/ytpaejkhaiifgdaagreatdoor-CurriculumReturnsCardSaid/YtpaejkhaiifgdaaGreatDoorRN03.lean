/-
  Small general facts and definitions, taken out of RBL. No program.
  The program's Write of curriculum: writeFields, Write of package entries, Write. Conditions: the curricula lie in memory; the variables hold what their text lays.
  The walk of CurriculumReturns. Conditions: the numbers lie in memory as a slice of ints; the variables hold what their text lays.
-/
import Derived.Test.YtpaejkhaiifgdaaGreatDoorGN01
import Derived.Test.YtpaejkhaiifgdaaGreatDoorGN02
import Derived.Test.YtpaejkhaiifgdaaGreatDoorGN03
import Derived.Test.YtpaejkhaiifgdaaGreatDoorGN04
import Derived.Test.YtpaejkhaiifgdaaGreatDoorGN05
import Derived.Test.YtpaejkhaiifgdaaGreatDoorGN06
import Derived.Test.YtpaejkhaiifgdaaGreatDoorGN07
import Derived.Test.YtpaejkhaiifgdaaGreatDoorGN08
import Derived.Test.YtpaejkhaiifgdaaGreatDoorGN09
import Derived.Test.YtpaejkhaiifgdaaGreatDoorGN10
import Derived.Test.YtpaejkhaiifgdaaGreatDoorGN11
import Derived.Test.YtpaejkhaiifgdaaGreatDoorGN12
import Derived.Test.YtpaejkhaiifgdaaGreatDoorGN13
import Derived.Test.YtpaejkhaiifgdaaGreatDoorGN14
import Derived.Test.YtpaejkhaiifgdaaGreatDoorGN15
import Derived.Test.YtpaejkhaiifgdaaGreatDoorGN16
import Derived.Test.YtpaejkhaiifgdaaGreatDoorGN17
import Derived.Test.YtpaejkhaiifgdaaGreatDoorGN18
import Derived.Test.YtpaejkhaiifgdaaGreatDoorRN01
import Derived.Test.YtpaejkhaiifgdaaGreatDoorRN02
import Derived.Test.YtpaejkhaiifgdaaGreatDoorProg
import Derived.WalkKit
import Derived.WalkSpells
import Derived.WalkLawsBesides
import Derived.Lib.Hide
import Derived.Deep.QuietTactic
import Derived.BigQuiet
import Derived.Laws.Rows
import Derived.OwnWalk
import Derived.Lib.BufferWrite
import Derived.Lib.UnsafeStr
import Derived.Laws.IdiomStrings
import Derived.Laws.BytesArg
import Derived.Laws.BytesString
import Derived.Laws.OwnMore
import Derived.Lib.IndexLaws
import Derived.Lib.ItoaNum
import Derived.Lib.Atoi
import Derived.Lib.Bytealg
import Derived.Maps.AppendAt
import Derived.RangeFuncNested
import Derived.RangeFuncBound
import Derived.RangeFuncCalls
import Derived.RangeFuncLeaves
import Derived.Shelf.Abstract
import Derived.Shelf.RegionOpen
import Derived.OwnWalkIn
import Derived.Lib.SlTrimSet
import Derived.Shelf.Strings.Builder1
import Derived.Shelf.Strings.Builder2
import Derived.Shelf.Strings.OnBuilder
import Derived.Shelf.Strings.Trim
import Derived.Shelf.Small.Utf8
import Derived.Shelf.Small.Strs
import Derived.Shelf.Strings.BuilderF
import Derived.Shelf.Strings.BuilderK
import Derived.Shelf.Strings.Builder2Cap
import Derived.Shelf.Strconv.Atoi
import Derived.Shelf.Strconv.Itoa0
import Derived.Shelf.Strconv.Itoa1
import Derived.Shelf.LaysM
import Derived.Shelf.Strconv.Itoa2
import Derived.Shelf.Strconv.Itoa3
import Derived.Shelf.Strconv.AtoiErrFast
import Derived.Shelf.Strconv.ParseIntEmpty
import Derived.Shelf.Strconv.AtoiFail
import Derived.Shelf.Strconv.Clone
import Derived.Shelf.Strconv.SyntaxError
import Derived.Shelf.LaysC
import Derived.Shelf.Strconv.ToError
import Derived.Shelf.Strconv.AtoiErr
import Derived.Shelf.Strings.Search1
import Derived.Shelf.Strings.Search2
import Derived.Shelf.Strings.Search3
import Derived.Shelf.Strings.Cut
import Derived.Shelf.Strings.Shaped
import Derived.Shelf.Strings.Prefix
import Derived.Shelf.Strings.Runes
import Derived.Shelf.Strings.AsciiSet
import Derived.Shelf.Bits.Mul64
import Derived.Shelf.Strings.Repeat
import Derived.Shelf.Unicode.DecodeSlow
import Derived.Shelf.Strings.BuilderCap
import Derived.Shelf.Slices.Turned
import Derived.Shelf.Strings.SlTrimAscii
import Derived.Lib.AtoiErrMem
import Derived.Handy
import Derived.Laws.ResultCell
import Derived.RegionTactic
import Derived.Lib.Repeat
import Derived.Deep.RegionHeld3
import Derived.Lib.SlicesS
import Derived.TacticsInMore
import Derived.LoopNIn
import Derived.LoopIn
import Derived.Deep.RegionLaw
import Derived.Deep.DeepCutAuto
import Derived.Lib.Join
import Derived.Laws.Concat
import Derived.Maps.OwnSet
import Derived.Maps.Range
import Derived.Laws.AppendOwn
import Derived.IntWalk
import Derived.Laws.BitsAllLaws
import Derived.Laws.BitsLemmas
import Derived.Deep.CutBlock
import Derived.OneCell
import Derived.Laws.Tables
import Derived.Laws.CopyOwn
import Derived.OrdersHeld
import Derived.Deep.AppendLies
import Derived.Stop.BytesEq
import Derived.RangeFuncBox
import Derived.Lib.MinMax
import Derived.Deep.WholeRow
set_option linter.unusedVariables false
namespace Go.Proofs.YtpaejkhaiifgdaaGreatDoor
open Go Go.Proofs Go.RowKit Go.Lib

abbrev RowA := List Str × (Option Addr × Nat)
def rowV (p : RowA) : Value := .slice p.2.1 p.1.length p.2.2
/-- Lists of strings that the call has made, in a slice of its own; what the slice leads to lies in other blocks of the call's own. -/
def RowsRow (w : World) (B : Nat) (v : Value) (L : List RowA) : Prop := w.ownsRow B 39 1 v L.length (L.map rowV) ∧
  ∀ p ∈ L, S3.StrsIn w (fun b => B ≤ b ∧ b < w.heap.size ∧ v.ownBlock ≠ some b) p.2.1 p.1 ∧ p.1.length ≤ p.2.2 ∧ p.2.2 ≤ 9223372036854775807
theorem RowsRow.nil (w : World) (B : Nat) : RowsRow w B (.slice none 0 0) [] := ⟨World.ownsRow_nil _ _ _ _, fun p hp => by simp at hp⟩
theorem RowsRow.rowsIn {w : World} {B : Nat} {v : Value} {L : List RowA} (h : RowsRow w B v L) : ∃ A c, v = .slice A L.length c ∧ L.length ≤ c ∧ c ≤ 9223372036854775807 ∧ RowsIn w (fun b => B ≤ b ∧ b < w.heap.size) A (L.map (·.1)) := by
  obtain ⟨h, hL⟩ := h
  have h' := h
  rcases h.2 with ⟨hv, h0⟩ | ⟨g, cap, cur, hv, hB, hg, h1, h2, _⟩
  · have hl : L = [] := List.eq_nil_of_length_eq_zero h0
    subst hl
    exact ⟨none, 0, by rw [hv]; rfl, Nat.le_refl _, by omega, .inl rfl⟩
  · refine ⟨_, cap, hv, h1, by unfold maxLen at h2; omega, .inr ⟨g, 0, rfl, ⟨hB, (Array.getElem?_eq_some_iff.1 hg).1⟩, fun j l hj => ?_⟩⟩
    rw [List.getElem?_map] at hj
    obtain ⟨p, hp, rfl⟩ := Option.map_eq_some_iff.1 hj
    obtain ⟨f1, f2, f3⟩ := hL p (List.mem_of_getElem? hp)
    refine ⟨p.2.1, p.2.2, ?_, f2, f3, f1.mono (fun b hb => ⟨hb.1, hb.2.1⟩)⟩
    have := World.ownsRow.cells h' (g := g) (by rw [hv]; rfl) j (rowV p) (by rw [List.getElem?_map, hp]; rfl)
    rw [Addr.add_lit] at this
    exact this
/-- One row more. -/
theorem RowsRow.snoc {w w1 w2 w3 w4 : World} {B : Nat} {v v' : Value} {L : List RowA} {l : List Str} {A : Option Addr} {c : Nat} (h : RowsRow w B v L) (hBw : B ≤ w1.heap.size) (h1 : Below w.heap.size w w1) (hb : Below w1.heap.size w1 w2) (hr : S3.StrRow w2 w1.heap.size (.slice A l.length c) l)
    (h3 : Below w2.heap.size w2 w3) (hown' : w4.ownsRow B 39 1 v' (L.length + 1) (L.map rowV ++ [.slice A l.length c])) (hg : w3.grownBy w4 v.ownBlock) (hat : v'.ownBlock = v.ownBlock ∨ v'.ownBlock = some w3.heap.size) : RowsRow w4 B v' (L ++ [(l, A, c)]) := by
  have hs1 := h1.size
  have hs2 := hb.size
  have hs3 := h3.size
  have hs4 := hg.size
  have hvl : ∀ g, v.ownBlock = some g → g < w.heap.size := fun g hg => (World.ownsRow.lt h.1 g hg).2
  refine ⟨by rw [List.map_append, List.length_append, List.length_singleton]; exact hown', fun p hp => ?_⟩
  rcases List.mem_append.1 hp with hp | hp
  · obtain ⟨f1, f2, f3⟩ := h.2 p hp
    refine ⟨S3.StrsIn.mono (f1.kept (w' := w4) (fun b hb' => ?_)) (fun b hb' => ⟨hb'.1, by omega, ?_⟩), f2, f3⟩
    · obtain ⟨k1, k2, k3⟩ := hb'
      rw [hg.block b (by omega) (fun e => k3 e.symm), h3.block b (by omega), hb.block b (by omega), h1.block b k2]
    · obtain ⟨k1, k2, k3⟩ := hb'
      intro e
      rcases hat with ha | ha
      · rw [ha] at e; exact k3 e
      · rw [ha] at e
        injection e with e
        omega
  · rw [List.mem_singleton] at hp
    subst hp
    obtain ⟨A5, c5, eA, hl5, hc5, hI5⟩ := hr.strsIn
    obtain ⟨rfl, rfl⟩ : A = A5 ∧ c = c5 := by injection eA with e1 _ e3; exact ⟨e1, e3⟩
    refine ⟨S3.StrsIn.mono (hI5.kept (w' := w4) (fun b hb' => ?_)) (fun b hb' => ⟨by omega, by omega, ?_⟩), hl5, hc5⟩
    · rw [hg.block b (by omega) (fun e => by have := hvl b e.symm; omega), h3.block b (by omega)]
    · intro e
      rcases hat with ha | ha
      · rw [ha] at e
        have := hvl b e
        omega
      · rw [ha] at e
        injection e with e
        omega
theorem infoStrs7 : (Tryz.prog.info? 39).map (fun i => (i.zero, i.size, i.bytes)) = some (some (.slice none 0 0), 1, 24) := by kernel_rfl
theorem one_slice (A : Option Addr) (n c : Nat) : ∀ u ∈ [Value.slice A n c], u.oneCell' = true := by
  intro u hu
  rw [List.mem_singleton] at hu
  subst hu
  rfl
/-- What Write leaves behind. -/
def WriteOut (o : List (List Str) × Int) (w : World) (e : Ending) (w' : World) : Prop := (∃ v L, L.map (·.1) = o.1 ∧ e = .returned (.tuple #[v, .int .i64 o.2]) ∧ RowsRow w' w.heap.size v L) ∧ Below w.heap.size w w'
theorem RowsRow.low {w : World} {B B' : Nat} {v : Value} {L : List RowA} (h : RowsRow w B v L) (hB : B' ≤ B) : RowsRow w B' v L := by
  refine ⟨?_, fun p hp => ?_⟩
  · refine ⟨h.1.1, ?_⟩
    rcases h.1.2 with k | ⟨g, cap, cur, k1, k2, k3⟩
    · exact .inl k
    · exact .inr ⟨g, cap, cur, k1, by omega, k3⟩
  · obtain ⟨f1, f2, f3⟩ := h.2 p hp
    exact ⟨f1.mono (fun b hb => ⟨by omega, hb.2⟩), f2, f3⟩

end Go.Proofs.YtpaejkhaiifgdaaGreatDoor

set_option linter.unusedVariables false
namespace Go.Proofs.YtpaejkhaiifgdaaGreatDoor.S11
open Go Go.Proofs Go.RowKit Go.Lib Go.Proofs.YtpaejkhaiifgdaaGreatDoor

set_option maxHeartbeats 8000000 in
set_option maxRecDepth 100000 in
theorem ufields_any (x : CurrD) (q : CurrA) (w : World) (h : CurrIn w (fun k => k < w.heap.size) x q) (hv : S3.checkM x.2 = 0) (hE : S3.Env w) :
    Calls Tryz.prog 33 #[currV x q] w (S3.RowOut (rowU x) w) := by
  obtain ⟨code, cs⟩ := x
  obtain ⟨A2, c2⟩ := q
  obtain ⟨ht, ht1, ht2⟩ := h
  dsimp only at ht ht1 ht2 hv
  unfold currV rowU S3.RowOut
  dsimp only
  have hx0 := Box2.new w (.string (ba code)) (.slice A2 cs.length c2)
  have hb0 := (Below.refl w.heap.size w).alloc (Nat.le_refl _) (.cells #[.string (ba code), .slice A2 cs.length c2] 41)
  have cJ := hid (fun (w' : World) (hb : Below w.heap.size w w') => S3.cjoin_any A2 cs c2 w' ((ht.below hb).mono (fun k hk => Nat.lt_of_lt_of_le hk hb.size)) ht1 ht2 (hE.below hb))
  have cJ' := cJ.out
  unfold S3.JoinOut at cJ'
  rw [if_pos hv, hv] at cJ'
  obtain ⟨X1, hX1⟩ : ∃ X, ba code = X := ⟨_, rfl⟩
  obtain ⟨X5, hX5⟩ : ∃ X, S3.ba (S3.joinM cs) = X := ⟨_, rfl⟩
  have hrow : Hid (S3.strVals [code, S3.joinM cs] = [.string X1, .string X5]) := hid (by rw [← hX1, ← hX5]; rfl)
  rw [hX1] at hx0 hb0
  rw [hX5] at cJ'
  rw [hX1]
  obtain ⟨T1, hT1⟩ : ∃ F, cs.length = F := ⟨_, rfl⟩
  rw [hT1] at hx0 hb0 cJ' ⊢
  have CJ := hid cJ'
  have HX0 := hid hx0
  have HB0 := hid hb0
  clear ht cJ cJ' hX1 hX5 hT1 hx0 hb0 hE ht1 hv
  go_enter Tryz.func33, Tryz.ntmps33
  go_wp2_with fail
  generalize World.alloc _ _ = wx at HX0 HB0 ⊢
  obtain ⟨x0, x1⟩ := HX0.out.cells
  go_wp2_with fail
  refine (CJ.out _ HB0.out).mono ?_
  rintro e w2 ⟨rfl, hb2⟩
  have HX2 := hid (HX0.out.next hb2)
  have HB2 := hid (HB0.out.trans (hb2.mono HB0.out.size))
  clear hb2 x0 x1
  obtain ⟨x0, x1⟩ := HX2.out.cells
  go_wp2
  go_ret
  refine ⟨⟨_, rfl, ?_⟩, HB2.out.alloc HB2.out.size _⟩
  unfold S3.StrRow
  rw [hrow.out]
  exact World.ownsRow_lit w2 #[.string X1, .string X5] 2 HB2.out.size (by decide) rfl

set_option maxHeartbeats 16000000 in
set_option maxRecDepth 100000 in
theorem ewrite_any (A : Option Addr) (l : List CurrD) (c : Nat) (w : World) (h : CurrsIn w (fun k => k < w.heap.size) A l) (h16 : l.length ≤ 16) (hok : ∀ r ∈ l, currM r = 0) (hE : S3.Env w) :
    Calls Tryz.prog 32 #[.slice A l.length c, .int .i64 0, .func (.func 33) #[] #[]] w (WriteOut (l.map rowU, 0) w) := by
  have eg : ∀ args w, (callFunc 33 args).run Tryz.prog w = .ok (.enter 33 args) w := enters_of Tryz.func33 (by kernel_rfl) rfl
  obtain ⟨iS, hiS, hzS, hsS, hbS⟩ := info_parts infoStrs7
  unfold WriteOut
  have HH := hid (fun (w' : World) (hb : Below w.heap.size w w') => h.below hb)
  have HE := hid (fun (w' : World) (hb : Below w.heap.size w w') => hE.below hb)
  have HOK := hid hok
  clear h hE hok
  go_enter Tryz.func32, Tryz.ntmps32
  go_wp2
  go_loopw [8, 16] (fun v iv wr => ∃ (i : Nat) (L : List RowA), iv = .int .i64 (i : Int) ∧ i ≤ l.length ∧ Hid (L.map (·.1) = (l.take i).map rowU) ∧ Hid (RowsRow wr w.heap.size v L) ∧ Hid (Below w.heap.size w wr)) (fun _ iv _ => l.length - (RowKit.intOf iv).toNat)
  case atStart => exact ⟨0, [], rfl, Nat.zero_le _, hid rfl, hid (RowsRow.nil _ _), hid (Below.refl _ _)⟩
  case round =>
    obtain ⟨i, L, rfl, hi, hL, hrow, hB⟩ := hrel
    obtain ⟨Ar, cr, hvr, _⟩ := hrow.out.rowsIn
    subst hvr
    have hLl : L.length = i := by
      have := congrArg List.length hL.out
      rw [List.length_map, List.length_map, List.length_take] at this
      omega
    have HLL := hid hLl
    clear hLl
    by_cases hlt : i < l.length
    · have hltz : (i : Int) < (l.length : Int) := by omega
      obtain ⟨fb, fo, q, rfl, hfb, hri, y0, y1⟩ := (HH.out _ hB.out).at_ hlt
      have hroom := HOK.out _ (List.getElem_mem hlt)
      have hst : (l.take (i + 1)).map rowU = L.map (·.1) ++ [rowU l[i]] := by rw [hL.out, List.take_succ_eq_append_getElem hlt, List.map_append]; rfl
      have cW : ∀ W, Below wr.heap.size wr W → Calls Tryz.prog 33 #[currV l[i] q] W (S3.RowOut (rowU l[i]) W) :=
        fun W hb => ufields_any l[i] q W ((hri.below (hb.mono hB.out.size)).mono (fun k hk => Nat.lt_of_lt_of_le hk (Nat.le_trans hB.out.size hb.size))) (currM_all hroom).2.2.2 (HE.out W (hB.out.trans (hb.mono hB.out.size)))
      obtain ⟨RW, hRW⟩ : ∃ r, rowU l[i] = r := ⟨_, rfl⟩
      rw [hRW] at cW hst
      obtain ⟨⟨code, ts⟩, hr⟩ : ∃ r, l[i] = r := ⟨_, rfl⟩
      rw [hr] at y0 y1 cW
      dsimp only at y0 y1
      unfold currV S3.RowOut at cW
      dsimp only at cW
      obtain ⟨X1, hX1⟩ : ∃ X, ba code = X := ⟨_, rfl⟩
      obtain ⟨T1, hT1⟩ : ∃ F, ts.length = F := ⟨_, rfl⟩
      rw [hX1] at y0 cW
      rw [hT1] at y1 cW
      have hb1 := (Below.refl wr.heap.size wr).alloc (Nat.le_refl _) (.cells #[.string X1, .slice q.1 T1 q.2] 41)
      have hx1 := Box2.new wr (.string X1) (.slice q.1 T1 q.2)
      have CW := hid (cW _ hb1)
      have HB1 := hid hb1
      have HX1 := hid hx1
      have HST := hid hst
      clear hr hRW hX1 hT1 hb1 hx1 cW hst hri hroom hfb
      go_wp2_with fail
      generalize wr.alloc (.cells #[.string X1, .slice q.1 T1 q.2] 41) = w1 at HB1 HX1 CW ⊢
      obtain ⟨z0, z1⟩ := HX1.out.cells
      go_wp2_with fail
      refine CW.out.mono ?_
      rintro e w2 ⟨⟨vi, rfl, hrowi⟩, hb2⟩
      obtain ⟨Ai, ci, rfl, hl5, hc5, _⟩ := hrowi.strsIn
      have HB2 := hid hb2
      have HRowi := hid hrowi
      have hrow2 : w2.ownsRow w.heap.size 39 1 (.slice Ar L.length cr) L.length (L.map rowV) := row_under (row_under hrow.out.1 HB1.out) HB2.out
      have HRow2 := hid hrow2
      have HC3 : Hid (L.length + 1 ≤ maxLen) := by unfold maxLen; exact hid (by have := HLL.out; omega)
      have HC4 : Hid ((L.length + 1) * 24 ≤ 140737488355328) := hid (by have := HLL.out; omega)
      have HSZ : Hid (w.heap.size ≤ w2.heap.size) := hid (by have := hB.out.size; have := HB1.out.size; have := HB2.out.size; omega)
      have HC5 : Hid (∀ o : Obj, w.heap.size ≤ (w2.alloc o).heap.size) := hid (fun o => by have := HSZ.out; simp; omega)
      clear hb2 hrowi hrow2 y0 y1 hl5 hc5 z0 z1
      go_wp2_with (at_builtin; refine wpList_append_own_at _ rfl _ _ 29 rfl w.heap.size 39 iS (.slice none 0 0) 1 24 Tryz.underlying29 hiS hzS hsS hbS rfl (by decide) _ L.length (L.map rowV) rfl (World.ownsRow.alloc HRow2.out _) ⟨w2.heap.size, 0, none⟩ 1 1 [.slice Ai RW.length ci] rfl rfl (one_new _ _ _) (one_slice _ _ _) HC3.out HC4.out (HC5.out _) ?_)
      intro v' w4 hown' hgrow _ hat
      have hsn := RowsRow.snoc hrow.out (by have := hB.out.size; have := HB1.out.size; omega) HB1.out HB2.out HRowi.out ((Below.refl w2.heap.size w2).alloc (Nat.le_refl _) _) hown' hgrow (hat.imp id (fun h => h.trans (by simp)))
      have hg' := grownBy_of_alloc hgrow
      have hb24 : Below w.heap.size w2 w4 := (Below.refl _ w2).grown hg' HSZ.out (fun k hk => (World.ownsRow.lt HRow2.out k hk).1)
      have HB4 := hid (((hB.out.trans (HB1.out.mono hB.out.size)).trans (HB2.out.mono (by have := hB.out.size; have := HB1.out.size; omega))).trans hb24)
      have HSN := hid hsn
      have HL2 : Hid ((L ++ [(RW, Ai, ci)]).map (·.1) = (l.take (i + 1)).map rowU) := hid (by rw [HST.out, List.map_append]; rfl)
      clear hb24 hg' hgrow hown' hsn hat
      go_wp2_with fail
      go_roundw
      case rel => exact ⟨i + 1, L ++ [(RW, Ai, ci)], by go_num, by omega, HL2, HSN, HB4⟩
      case measure => simp [RowKit.intOf]; omega
    · have hltz : ¬ (i : Int) < (l.length : Int) := by omega
      have hL2 : Hid (L.map (·.1) = l.map rowU) := hid (by rw [hL.out, List.take_of_length_le (by omega)])
      go_wp2
      go_ret2
      exact ⟨⟨_, L, hL2.out, rfl, hrow.out⟩, hB.out⟩
set_option maxHeartbeats 4000000 in
theorem ewriteE_any (A : Option Addr) (n c : Nat) (R : Int) (hR : R ≠ 0) (f : Value) (w : World) :
    Calls Tryz.prog 32 #[.slice A n c, .int .i64 R, f] w (WriteOut ([], R) w) := by
  unfold WriteOut
  have hR1 : (R != 0) = true := by simpa using hR
  have hR2 : (R == 0) = false := by simpa using hR
  go_enter Tryz.func32, Tryz.ntmps32
  go_wp2
  go_ret2
  exact ⟨⟨_, [], rfl, rfl, RowsRow.nil _ _⟩, Below.refl _ _⟩
set_option maxHeartbeats 8000000 in
theorem uwrite_any (A : Option Addr) (l : List CurrD) (c : Nat) (w : World) (h : CurrsIn w (fun k => k < w.heap.size) A l) (hE : S3.Env w) :
    Calls Tryz.prog 8 #[.slice A l.length c] w (WriteOut (writeU l) w) := by
  have cV := uvalid_any A l c w h hE
  have cW : ∀ W, Below w.heap.size w W → Calls Tryz.prog 32 #[.slice A l.length c, .int .i64 (validU l), .func (.func 33) #[] #[]] W (WriteOut (writeU l) W) := fun W hb => by
    unfold writeU
    by_cases h0 : validU l = 0
    · rw [if_neg (by simpa using h0), h0]
      exact ewrite_any A l c W ((h.below hb).mono (fun k hk => Nat.lt_of_lt_of_le hk hb.size)) (validU_ok h0).1 (validU_ok h0).2 (hE.below hb)
    · rw [if_pos h0]
      exact ewriteE_any A l.length c (validU l) h0 _ W
  unfold Says at cV
  unfold WriteOut at cW ⊢
  obtain ⟨R, hR⟩ : ∃ R, validU l = R := ⟨_, rfl⟩
  obtain ⟨⟨o1, o2⟩, hO⟩ : ∃ R, writeU l = R := ⟨_, rfl⟩
  rw [hR] at cV cW
  rw [hO] at cW ⊢
  obtain ⟨N, hN⟩ : ∃ N, l.length = N := ⟨_, rfl⟩
  rw [hN] at cV cW ⊢
  have CV := hid cV
  have CW := hid cW
  clear cV cW hR hO hN h hE
  go_enter Tryz.func8, Tryz.ntmps8
  go_wp2_with fail
  refine CV.out.mono ?_
  rintro e w1 ⟨rfl, hb1⟩
  have HB1 := hid hb1
  clear hb1
  go_wp2_with fail
  refine (CW.out _ HB1.out).mono ?_
  rintro e w2 ⟨⟨v, L, hL, rfl, hrow⟩, hb2⟩
  have HR : Hid (∃ v' L', L'.map (·.1) = o1 ∧ Ending.returned (.tuple #[v, .int .i64 o2]) = .returned (.tuple #[v', .int .i64 o2]) ∧ RowsRow w2 w.heap.size v' L') := hid ⟨v, L, hL, rfl, hrow.low HB1.out.size⟩
  have HB2 := hid (HB1.out.trans (hb2.mono HB1.out.size))
  clear hL hrow hb2
  go_wp2
  go_ret2
  exact ⟨HR.out, HB2.out⟩
end Go.Proofs.YtpaejkhaiifgdaaGreatDoor.S11

set_option linter.unusedVariables false
namespace Go.Proofs.YtpaejkhaiifgdaaGreatDoor.S11
open Go Go.Proofs Go.RowKit Go.Lib Go.Proofs.YtpaejkhaiifgdaaGreatDoor Go.Proofs.YtpaejkhaiifgdaaGreatDoor.S10

set_option maxHeartbeats 32000000 in
set_option maxRecDepth 100000 in
theorem returns_any (A : Option Addr) (L : List Int) (c FB fo fc : Nat) (hlen : L.length ≤ 9223372036854775807) (w : World) (hE : S3.Env w) (h : IntsIn w w.heap.size A L)
    (hf : FeatAt w FB fo fc) (hFB : FB < w.heap.size) :
    Calls Tryz.prog 5 #[.slice A L.length c] w fun e w' => e = .returned (.bool true) ∧ Below w.heap.size w w' := by
  have cL := light_any A L.length c w
  have hGf : 0 < w.heap.size := World.block_lt_of_cell? w _ hf.c0
  have HFT := hid (fun w' (hb : Below w.heap.size w w') => hf.kept (w' := w') (hb.block _ hGf) (hb.block _ hFB))
  have cK := hid (fun w' (hb : Below w.heap.size w w') => awake_any w' (hE.below hb))
  have cK' := cK.out
  unfold Says at cK'
  have cK := hid cK'
  have HE := hid (fun w' (hb : Below w.heap.size w w') => hE.below hb)
  clear cK' hf hE
  by_cases hl : L.length ≤ 400
  · rw [decide_eq_true hl] at cL
    have cR := hid (fun w h => roll_any A L c hl w h)
    have HI := hid h
    clear h
    go_enter Tryz.func5, Tryz.ntmps5
    go_wp2_with fail
    refine cL.mono ?_
    rintro e w' ⟨rfl, rfl⟩
    go_wp2_with fail
    refine (cR.out _ HI.out).mono ?_
    rintro e w1 ⟨rfl, hd1, hb1⟩
    have hgl := hd1.lt
    have HB : Hid (∀ W k, DE w1 w.heap.size c A L k W → Below w.heap.size w W) := hid (fun W k he => hb1.trans (he.toBelow (Nat.le_of_lt hgl) (Nat.le_refl _)))
    have cG := hid (grid_any w.heap.size c 0 A L w1 hd1)
    clear hd1 hb1 cL cR HI
    go_wp2_with fail
    refine cG.out.mono ?_
    rintro e w2 ⟨d, s, b, m, k2, rfl, hmg, he2⟩
    have g1 : 1 ≤ d ∧ d ≤ 5 := hmg.1
    have g2 : 2 ≤ s ∧ s ≤ 8 := hmg.2.1
    have CL : Hid (Calls Tryz.prog 22 #[.pointer (some ⟨w.heap.size, 0, none⟩), .agg #[.int .i64 d, .int .i64 s, .int .i64 b, .int .i64 m], .int .i64 1, .slice none 0 0, .int .i64 6] w2 fun e w' => ∃ (ls : List ClassD) (Al : Option Addr) (cl k : Nat), e = .returned (.slice Al ls.length cl) ∧ ls.length ≤ 6 ∧ (ls.length ≤ cl ∧ cl ≤ 9223372036854775807) ∧ ClassesOk d s 1 [] ls ∧ ClassesIn w' (fun k => w.heap.size < k ∧ k < w'.heap.size) Al ls ∧ DE w1 w.heap.size c A L k w') := hid (by
      refine (classes_any w.heap.size c k2 FB fo fc A L d s b m 1 6 (by omega) (by omega) (by omega) (by omega) (by omega) (by omega) (by omega) none [] 0 (by simp) w2 he2.d (.inl rfl) (HFT.out _ (HB.out _ _ he2)) hGf hFB).mono ?_
      rintro e w' ⟨ls, v, k', rfl, hl6, hok, hrow, he⟩
      obtain ⟨A5, c5, rfl, h1, h2, hin5⟩ := hrow.classesIn
      have hz2 : w.heap.size < w2.heap.size := Nat.lt_of_lt_of_le hgl he2.p.size
      exact ⟨ls, A5, c5, k', rfl, hl6, ⟨h1, h2⟩, hok, hin5.mono (fun k hk => by rcases hk with h | h; exact ⟨by omega, h.2⟩; exact ⟨by omega, h.2⟩), he2.trans he⟩)
    clear he2 cG hmg
    go_wp2_with fail
    refine CL.out.mono ?_
    rintro e w3 ⟨cls, Ac, cc, k3, rfl, hl6, hcc, hok, hcin, he3⟩
    have hCU := curricula_any w.heap.size c k3 A L Ac cls cc (by omega) w3 he3.d (hcin.mono (fun k hk => hk.2))
    have HCU := hid hCU
    have HCI := hid hcin
    have HE3 := hid he3
    have HL6 := hid (And.intro hl6 hcc)
    have HCO := hid hok
    obtain ⟨NC, hNC⟩ : ∃ F, cls.length = F := ⟨_, rfl⟩
    have HNC := hid hNC
    rw [hNC] at HCU ⊢
    clear hCU hcin he3 hl6 hok CL hNC hcc g1 g2 HFT
    go_wp2_with fail
    refine HCU.out.mono ?_
    rintro e w4 ⟨ls, v, k4, rfl, hlo, hlr, he4⟩
    obtain ⟨Al, cl, rfl, _, _, hlin⟩ := hlr.currsIn
    have HB4 := hid (HB.out _ _ (HE3.out.trans he4))
    have HLIN : Hid (CurrsIn w4 (fun k => k < w4.heap.size) Al ls) := hid (hlin.mono (fun k hk => by rcases hk with h | h; exact h.2; exact h.2))
    obtain ⟨hval, hread, hsm⟩ := currs_back HCO.out hlo
    have hl3 := hlo.len
    have cW := uwrite_any Al ls cl w4 HLIN.out (HE.out _ HB4.out)
    have hwr : writeU ls = (ls.map rowU, 0) := by unfold writeU; rw [if_neg (by simp [hval])]
    rw [hwr] at cW
    have hrl : (ls.map rowU).length = ls.length := List.length_map _
    have hpl : (plainM (ls.map rowU)).length = ls.length := by rw [plainM_len, hrl]
    have hpsz : ∀ x ∈ plainM (ls.map rowU), ∀ f ∈ x.2, f.1.length < 4294967281 := fun x hx f hf => by
      obtain ⟨r, hr, hfr⟩ := plainM_memU hx f hf
      have := (hsm r hr).2 f.1 hfr
      omega
    obtain ⟨rows, hrows⟩ : ∃ R, ls.map rowU = R := ⟨_, rfl⟩
    rw [hrows] at cW hread hsm hrl hpl hpsz
    have HP : Hid (∀ (W : World) (A6 : Option Addr) (c6 M6 : Nat), M6 ≤ W.heap.size → RowsIn W (fun k => k < M6) A6 rows → Calls Tryz.prog 29 #[.slice A6 ls.length c6] W fun e w' =>
        (∃ (A7 : Option Addr) (c7 : Nat), e = .returned (.slice A7 ls.length c7) ∧ RecsIn w' (fun k => k < w'.heap.size) A7 (plainM rows)) ∧ Below W.heap.size W w') := hid (fun W A6 c6 M6 hM hr => by
      have cP := plain_any A6 rows c6 M6 W hM hr (by omega) (fun r hr => by have := (hsm r hr).1; omega) (fun r hr x hx => by have := (hsm r hr).2 x hx; omega)
      rw [hrl] at cP
      refine cP.mono ?_
      rintro e w' ⟨⟨v, rfl, hrr⟩, hb⟩
      obtain ⟨A7, c7, rfl, _, _, hri⟩ := hrr.recsIn
      rw [hpl]
      exact ⟨⟨A7, c7, rfl, hri.mono (fun k hk => hk.2)⟩, hb⟩)
    have HRD : Hid (∀ (W : World) (A7 : Option Addr) (c7 : Nat), RecsIn W (fun k => k < W.heap.size) A7 (plainM rows) → Below w.heap.size w W → Calls Tryz.prog 10 #[.slice A7 ls.length c7] W fun e w' =>
        (∃ (A8 : Option Addr) (c8 : Nat) (A9 : Option Addr) (c9 : Nat), e = .returned (.tuple #[.slice A8 ls.length c8, .slice A9 0 c9]) ∧ CurrsIn w' (fun k => k < w'.heap.size) A8 ls) ∧ Below W.heap.size W w') := hid (fun W A7 c7 hr hb => by
      have cR := uread_any A7 (plainM rows) c7 W hr (by omega) hpsz (HE.out _ hb)
      rw [hread, hpl] at cR
      unfold ReadOut at cR
      refine cR.mono ?_
      rintro e w' ⟨v1, v2, rfl, hrm, hpr, hb'⟩
      obtain ⟨A8, c8, rfl, _, _, hin8⟩ := hrm.currsIn
      have hv2 : ∃ A9 c9, v2 = .slice A9 0 c9 := by
        rcases hpr.2 with ⟨hv, _⟩ | ⟨g, cap, cur, hv, _⟩
        · exact ⟨_, _, hv⟩
        · exact ⟨_, _, hv⟩
      obtain ⟨A9, c9, rfl⟩ := hv2
      exact ⟨⟨A8, c8, A9, c9, rfl, hin8.mono (fun k hk => by rcases hk with h | h; exact h.2; exact h.2)⟩, hb'⟩)
    unfold WriteOut at cW
    have CW := hid cW
    have HRL := hid hrl
    obtain ⟨NL, hNL⟩ : ∃ F, ls.length = F := ⟨_, rfl⟩
    have HNL := hid hNL
    rw [hNL] at HP HRD CW HRL hl3 ⊢
    clear hval hread hsm cW hwr hrl hpl hpsz hrows hlo hlr he4 hlin HCU HE3 HCI HB hgl hNL
    go_wp2_with fail
    refine CW.out.mono ?_
    rintro e w6 ⟨⟨v6, L6, hL6, rfl, hrr6⟩, hb6⟩
    obtain ⟨A6, c6, rfl, _, _, hri6⟩ := hrr6.rowsIn
    have hl6 : L6.length = NL := by rw [← HRL.out, ← hL6, List.length_map]
    rw [hL6] at hri6
    rw [hl6]
    have HRI6 : Hid (RowsIn w6 (fun k => k < w6.heap.size) A6 rows) := hid (hri6.mono (fun k hk => hk.2))
    have HB6 := hid (HB4.out.trans (hb6.mono HB4.out.size))
    have HLI6 := hid ((HLIN.out.below hb6).mono (fun k hk => Nat.lt_of_lt_of_le hk hb6.size))
    clear hrr6 hri6 hb6 hL6 hl6 CW HRL HLIN HB4
    go_wp2_with fail
    refine (HP.out w6 A6 c6 w6.heap.size (Nat.le_refl _) HRI6.out).mono ?_
    rintro e w7 ⟨⟨A7, c7, rfl, hrc⟩, hb7⟩
    have HRC := hid hrc
    have HB7 := hid (HB6.out.trans (hb7.mono HB6.out.size))
    have HL7 := hid ((HLI6.out.below hb7).mono (fun k hk => Nat.lt_of_lt_of_le hk hb7.size))
    clear hrc hb7 HB6 HLI6 HP HRI6
    go_wp2_with fail
    refine (HRD.out w7 A7 c7 HRC.out HB7.out).mono ?_
    rintro e w8 ⟨⟨A8, c8, A9, c9, rfl, hin8⟩, hb8⟩
    have HIN8 := hid hin8
    have HB8 := hid (HB7.out.trans (hb8.mono HB7.out.size))
    have HL8 := hid ((HL7.out.below hb8).mono (fun k hk => Nat.lt_of_lt_of_le hk hb8.size))
    clear hin8 hb8 HB7 HL7 HRD HRC
    go_wp2_with fail
    refine (cK.out _ HB8.out).mono ?_
    rintro e w9 ⟨rfl, hb9⟩
    have HB9 := hid (HB8.out.trans (hb9.mono HB8.out.size))
    have HL9 := hid ((HL8.out.below hb9).mono (fun k hk => Nat.lt_of_lt_of_le hk hb9.size))
    have HIN9 := hid ((HIN8.out.below hb9).mono (fun k hk => Nat.lt_of_lt_of_le hk hb9.size))
    clear hb9 HB8 HL8 HIN8
    have cSM := usame_any Al A8 ls cl c8 _ _ w9 HL9.out HIN9.out (by rw [HNL.out]; omega)
    rw [HNL.out] at cSM
    have CSM := hid cSM
    clear cSM
    go_wp2_with fail
    refine CSM.out.mono ?_
    rintro e w10 ⟨rfl, q, rfl⟩
    have HBA := hid (HB9.out.trans ((S3.below_drewN (Below.refl _ w9) q).mono HB9.out.size))
    clear HB9 HL9 HIN9 CSM
    go_wp2
    go_ret
    exact ⟨rfl, HBA.out⟩
  · rw [decide_eq_false hl] at cL
    clear h
    go_enter Tryz.func5, Tryz.ntmps5
    go_wp2_with fail
    refine cL.mono ?_
    rintro e w' ⟨rfl, rfl⟩
    go_wp2_with fail
    refine (cK.out _ (Below.refl _ _)).mono ?_
    rintro e w2 ⟨rfl, hb2⟩
    have HB2 := hid hb2
    clear hb2
    go_wp2
    go_ret
    exact ⟨rfl, HB2.out⟩
end Go.Proofs.YtpaejkhaiifgdaaGreatDoor.S11

