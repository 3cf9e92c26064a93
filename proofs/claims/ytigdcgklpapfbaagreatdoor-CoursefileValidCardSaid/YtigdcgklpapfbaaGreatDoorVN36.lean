/-
  Reading starts: hasEqual at starts, readStarts of coursefile. Conditions: the variables hold what their text lays; the text is below 2^32 bytes.
-/
import Derived.Test.YtigdcgklpapfbaaGreatDoorVN01
import Derived.Test.YtigdcgklpapfbaaGreatDoorVN02
import Derived.Test.YtigdcgklpapfbaaGreatDoorVN03
import Derived.Test.YtigdcgklpapfbaaGreatDoorVN04
import Derived.Test.YtigdcgklpapfbaaGreatDoorVN05
import Derived.Test.YtigdcgklpapfbaaGreatDoorVN06
import Derived.Test.YtigdcgklpapfbaaGreatDoorVN07
import Derived.Test.YtigdcgklpapfbaaGreatDoorVN08
import Derived.Test.YtigdcgklpapfbaaGreatDoorVN09
import Derived.Test.YtigdcgklpapfbaaGreatDoorVN10
import Derived.Test.YtigdcgklpapfbaaGreatDoorVN11
import Derived.Test.YtigdcgklpapfbaaGreatDoorVN12
import Derived.Test.YtigdcgklpapfbaaGreatDoorVN13
import Derived.Test.YtigdcgklpapfbaaGreatDoorVN14
import Derived.Test.YtigdcgklpapfbaaGreatDoorVN15
import Derived.Test.YtigdcgklpapfbaaGreatDoorVN16
import Derived.Test.YtigdcgklpapfbaaGreatDoorVN17
import Derived.Test.YtigdcgklpapfbaaGreatDoorVN18
import Derived.Test.YtigdcgklpapfbaaGreatDoorVN19
import Derived.Test.YtigdcgklpapfbaaGreatDoorVN34
import Derived.Test.YtigdcgklpapfbaaGreatDoorVN35
import Derived.Test.YtigdcgklpapfbaaGreatDoorProg
import Derived.WalkKit
import Derived.WalkSpells
import Derived.WalkLawsBesides
import Derived.Lib.Hide
import Derived.Deep.QuietTactic
import Derived.BigQuiet
import Derived.Laws.Rows
import Derived.OwnWalk
import Derived.Lib.BufferWrite
import Derived.Lib.UnsafeStr
import Derived.Laws.IdiomStrings
import Derived.Laws.BytesArg
import Derived.Laws.BytesString
import Derived.Laws.OwnMore
import Derived.Lib.IndexLaws
import Derived.Lib.ItoaNum
import Derived.Lib.Atoi
import Derived.Laws.BitsAllLaws
import Derived.Laws.BitsLemmas
import Derived.Deep.MidRow
import Derived.Shelf.Strings.Builder1
import Derived.Shelf.Strings.Builder2
import Derived.Shelf.Strings.OnBuilder
import Derived.Shelf.Strings.Trim
import Derived.Shelf.Small.Bits
import Derived.Shelf.Small.Strs
import Derived.Shelf.Small.Wraps
import Derived.Shelf.Strings.BuilderF
import Derived.Shelf.Strings.BuilderK
import Derived.Shelf.Strings.Builder2Cap
import Derived.Shelf.Strconv.Atoi
import Derived.Shelf.Strconv.Itoa0
import Derived.Shelf.Strconv.Itoa1
import Derived.Shelf.LaysM
import Derived.Shelf.Strconv.Itoa2
import Derived.Shelf.Strconv.Itoa3
import Derived.Shelf.Strconv.AtoiErrFast
import Derived.Shelf.Strconv.ParseIntEmpty
import Derived.Shelf.Strconv.AtoiFail
import Derived.Shelf.Strconv.Clone
import Derived.Shelf.Strconv.SyntaxError
import Derived.Shelf.LaysC
import Derived.Shelf.Strconv.ToError
import Derived.Shelf.Strconv.AtoiErr
import Derived.Shelf.Strings.Search1
import Derived.Shelf.Strings.Search2
import Derived.Shelf.Strings.Search3
import Derived.Shelf.Strings.Cut
import Derived.Shelf.Strings.Shaped
import Derived.Shelf.Strings.Prefix
import Derived.Shelf.Strings.Runes
import Derived.Shelf.Strings.AsciiSet
import Derived.Shelf.Bits.Mul64
import Derived.Shelf.Strings.Repeat
import Derived.Shelf.Unicode.DecodeSlow
import Derived.Shelf.Strings.BuilderCap
import Derived.Shelf.Slices.Turned
import Derived.Ground.SlgfProg
import Derived.Shelf.SlicesE.IndexFunc
import Derived.Lib.AtoiErrMem
import Derived.Handy
import Derived.RangeFuncNested
import Derived.RangeFuncBound
import Derived.RangeFuncCalls
import Derived.RangeFuncLeaves
import Derived.Shelf.Abstract
import Derived.Shelf.RegionOpen
import Derived.OwnWalkIn
import Derived.Lib.Bytealg
import Derived.Lib.SlTrimSet
import Derived.Shelf.Strings.SlTrimAscii
import Derived.Laws.ResultCell
import Derived.RegionTactic
import Derived.Lib.Repeat
import Derived.Deep.RegionHeld3
import Derived.Lib.SlicesS
import Derived.TacticsInMore
import Derived.LoopNIn
import Derived.LoopIn
import Derived.Deep.DeepCutAuto
import Derived.Lib.Join
import Derived.Laws.Concat
import Derived.Maps.OwnSet
import Derived.Maps.Range
import Derived.Sort.EncStr
import Derived.RangeFuncBox
import Derived.Deep.RegionLaw
import Derived.Sort.Grow
import Derived.Shelf.SlGeneric
import Derived.Shelf.SlSortCmp.NoneTotal
import Derived.Ground.SlsfProg
import Derived.Sort.OwnSorted
import Derived.Shelf.SlicesQ.Contains
import Derived.Ground.SlgqProg
import Derived.StillTailTactics
import Derived.Laws.StructEq
set_option linter.unusedVariables false
namespace Go.Proofs.YtigdcgklpapfbaaGreatDoor.S10
open Go Go.Proofs Go.RowKit Go.Lib Go.Proofs.YtigdcgklpapfbaaGreatDoor

/-- That two starts are equal, as the model finds it. -/
theorem eqlStart : EqlAt Tryz.prog 74 (fun x : StartD => .agg (startVs x).toArray) (fun x y => decide (x = y)) := by
  refine ⟨fun x y w => ?_, GuardAt.agg _ (by kernel_rfl)⟩
  have u3 := Tryz.underlying3
  have a3 := Tryz.isAgg3
  have z3 := Tryz.sizeOf3
  have hS : Tryz.prog.underlying 74 = some (.struct (Tryz.prog.fieldsOf 74)) := by kernel_rfl
  have hp : Tryz.prog.stoodInHeld 74 = false := by kernel_rfl
  simp only [startVs]
  rw [run_eql_struct, show (10000 : Nat) = 9999 + 1 from rfl, run_equalIn_agg w 9999 74 _ _ hS hp]
  simp only [Program.fieldsOf, Tryz.underlying74]
  go_simp
  obtain ⟨x1, x2⟩ := x
  obtain ⟨y1, y2⟩ := y
  by_cases h1 : x1 = y1 <;> by_cases h2 : x2 = y2 <;> simp [h1, h2]
theorem containsS_any (b off i c : Nat) (l : List StartD) (x : StartD) (w : World) (hi : i ≤ l.length) (hbig : i ≤ 9223372036854775807) (hc : ∀ j (h : j < l.length), w.cell? ⟨b, off + j * 2, none⟩ = some (.int .i64 (l[j]).1) ∧ w.cell? ⟨b, off + j * 2 + 1, none⟩ = some (.int .i64 (l[j]).2)) :
    Calls Tryz.prog 164 #[.slice (some ⟨b, off, none⟩) i c, .agg #[.int .i64 x.1, .int .i64 x.2]] w fun e w' => e = .returned (.bool (decide (x ∈ l.take i))) ∧ Below w.heap.size w w' := by
  have h := AnyQ.slices_Contains Tryz.containsStart 2 Tryz.isAgg74 Tryz.sizeOf74 startVs (fun _ => rfl) (fun x y => decide (x = y)) eqlStart b off i c l x w hi hbig (fun j hj k v hv => by
    obtain ⟨h0, h1⟩ := hc j hj
    have e1 : l[j]! = l[j] := by simp [hj]
    rw [e1] at hv
    match k, hv with
    | 0, hv => exact h0.trans hv
    | 1, hv => exact h1.trans hv
    | k + 2, hv => simp [startVs] at hv)
  have e : (l.take i).any (fun y => decide (x = y)) = decide (x ∈ l.take i) := by
    rw [Bool.eq_iff_iff, List.any_eq_true, decide_eq_true_iff]
    constructor
    · rintro ⟨y, hy, h⟩
      have := of_decide_eq_true h
      subst this
      exact hy
    · intro h
      exact ⟨x, h, decide_eq_true rfl⟩
  rw [e] at h
  exact h
set_option maxHeartbeats 4000000 in
set_option maxRecDepth 100000 in
theorem hasEqualS_any (A : Option Addr) (l : List StartD) (c : Nat) (B : Nat) (w : World) (hB : B ≤ w.heap.size) (h : StartsIn w (fun b => b < B) A l) (hlc : l.length ≤ c) (hc : c ≤ 9223372036854775807) :
    Calls Tryz.prog 127 #[.slice A l.length c] w fun e w' => e = .returned (.bool (dupB l)) ∧ Below w.heap.size w w' := by
  obtain ⟨ANS, hA⟩ : ∃ ANS, dupB l = ANS := ⟨_, rfl⟩
  rw [hA]
  have HA := hid hA
  have HH := hid h
  clear h hA
  go_enter Tryz.func127, Tryz.ntmps127
  go_wp2
  go_loopw [3, 4, 7] (fun _ _ iv wr => ∃ i : Nat, iv = .int .i64 (i : Int) ∧ i ≤ l.length ∧ Hid ((l.take i).Nodup) ∧ Hid (Below w.heap.size w wr)) (fun _ _ iv _ => l.length - (RowKit.intOf iv).toNat)
  case atStart => exact ⟨0, rfl, Nat.zero_le _, hid (by simp), hid (Below.refl _ _)⟩
  case round =>
    obtain ⟨i, rfl, hi, hN, hBw⟩ := hrel
    by_cases hlt : i < l.length
    · have hltz : (i : Int) < (l.length : Int) := by omega
      have hst := nodup_take hlt hN.out
      have hHH : StartsIn wr (fun b => b < B) A l := HH.out.kept (fun b hb => hBw.out.block b (Nat.lt_of_lt_of_le hb hB))
      obtain ⟨b1, o1, rfl, hb1, hc0, hc1⟩ := hHH.start hlt
      have hb1w : b1 < wr.heap.size := Nat.lt_of_lt_of_le hb1 (Nat.le_trans hB hBw.out.size)
      have cC := fun (W : World) (hb : Below wr.heap.size wr W) => containsS_any b1 o1 i c l l[i] W (by omega) (by omega) (fun j hj => by
        obtain ⟨b2, o2, hA2, _, hc2, hc3⟩ := hHH.start hj
        injection hA2 with hA2
        injection hA2 with e1 e2 _
        subst e1 e2
        exact ⟨(hb.cell (p := ⟨b1, o1 + j * 2, none⟩) hb1w).trans hc2, (hb.cell (p := ⟨b1, o1 + j * 2 + 1, none⟩) hb1w).trans hc3⟩)
      obtain ⟨⟨y0, y1⟩, hy⟩ : ∃ y, l[i] = y := ⟨_, rfl⟩
      rw [hy] at hc0 hc1 hst cC
      dsimp only at hc0 hc1 cC
      have hic : i ≤ c := by omega
      have hS := BoxS.new wr (.int .i64 y0) (.int .i64 y1)
      have hb2 := (Below.refl wr.heap.size wr).alloc (Nat.le_refl _) (.cells #[.int .i64 y0, .int .i64 y1] 74)
      obtain ⟨M, hM⟩ : ∃ M, decide ((y0, y1) ∈ l.take i) = M := ⟨_, rfl⟩
      rw [hM] at cC
      obtain ⟨s0, s1⟩ := hS.cells
      have CC := hid cC
      have HST := hid hst
      have HM := hid hM
      have HB2 := hid hb2
      clear cC hst hy hM hHH hb1w hb1 hS hb2
      go_wp2
      generalize wr.alloc (.cells #[.int .i64 y0, .int .i64 y1] 74) = w1 at HB2 s0 s1 ⊢
      go_still_tail 4, (by kernel_rfl)
      change wpList _ _ _ _ _ w1.drew
      go_wp2_with fail
      refine (CC.out w1.drew HB2.out.drew).mono ?_
      rintro e w2 ⟨rfl, hb⟩
      have HBE := hid (hBw.out.trans ((HB2.out.drew.trans (hb.mono HB2.out.drew.size)).mono hBw.out.size))
      clear hb
      cases M with
      | true =>
        have HT : Hid (ANS = true) := hid (by
          rw [← HA.out]
          unfold dupB
          rw [decide_eq_false (fun k => HST.out.1 (nodup_pre _ k) (of_decide_eq_true HM.out))]
          rfl)
        go_wp2
        go_ret
        exact ⟨by rw [HT.out]; rfl, HBE.out⟩
      | false =>
        have HN2 := hid (HST.out.2 (of_decide_eq_false HM.out))
        go_wp2
        go_roundw
        case rel => exact ⟨i + 1, by go_num, by omega, HN2, HBE⟩
        case measure => simp [RowKit.intOf]; omega
    · have hltz : ¬ (i : Int) < (l.length : Int) := by omega
      have HF : Hid (ANS = false) := hid (by
        have h := hN.out
        rw [List.take_of_length_le (by omega)] at h
        rw [← HA.out]
        unfold dupB
        rw [decide_eq_true h]
        rfl)
      go_wp2
      go_ret
      exact ⟨by rw [HF.out]; rfl, hBw.out⟩

/-- The boxes of a length and a grid. -/
structure KL (w0 : World) (len d s b m : Int) (W : World) : Prop where
  l : Box1 W w0.heap.size 3 (.int .i64 len)
  g : Box4 W (w0.heap.size + 1) d s b m
  b : Below w0.heap.size w0 W
theorem KL.next {w0 W W' : World} {len d s b m : Int} (h : KL w0 len d s b m W) (k : Below W.heap.size W W') : KL w0 len d s b m W' := ⟨h.l.next k, h.g.next k h.g.lt, h.b.trans (k.mono h.b.size)⟩
theorem KL.first (w : World) (len d s b m : Int) : KL w len d s b m ((w.alloc (.cells #[.int .i64 len] 3)).alloc (.cells #[.int .i64 d, .int .i64 s, .int .i64 b, .int .i64 m] 24)) := by
  have hb1 := (Below.refl w.heap.size w).alloc (Nat.le_refl _) (.cells #[.int .i64 len] 3)
  have hL := Box1.new w 3 (.int .i64 len)
  have hs : (w.alloc (.cells #[.int .i64 len] 3)).heap.size = w.heap.size + 1 := by simp
  generalize w.alloc (.cells #[.int .i64 len] 3) = w1 at hb1 hL hs ⊢
  have hb2 := (Below.refl w1.heap.size w1).alloc (Nat.le_refl _) (.cells #[.int .i64 d, .int .i64 s, .int .i64 b, .int .i64 m] 24)
  have hG := Box4.new w1 d s b m 24
  rw [hs] at hG
  exact ⟨hL.next hb2, hG, hb1.trans (hb2.mono (by omega))⟩
/-- What reading starts leaves behind. -/
def StartsOut (r : List StartD × Int) (w : World) (e : Ending) (w' : World) : Prop := (∃ v, e = .returned (.tuple #[v, .int .i64 r.2]) ∧ StartRow w' w.heap.size v r.1) ∧ Below w.heap.size w w'
theorem StartRow.nil (w : World) (B : Nat) : StartRow w B (.slice none 0 0) [] := World.ownsRow_nil _ _ _ _
set_option maxHeartbeats 8000000 in
set_option maxRecDepth 100000 in
theorem readStarts_any (d s b m len : Int) (x : ByteArray) (hs : x.size < 4294967281) (w : World) (hE : Env7 w) :
    Calls Tryz.prog 89 #[.string x, .int .i64 len, .agg #[.int .i64 d, .int .i64 s, .int .i64 b, .int .i64 m]] w (StartsOut (startsM d s b m len (lst x)) w) := by
  unfold StartsOut startsM
  have hk := KL.first w len d s b m
  by_cases h0 : 0 < x.size
  · obtain ⟨x1, x2, x3, x4⟩ := str_no h0
    have hne : lst x ≠ [] := fun e => by rw [Lib.size_eq, show x.data.toList = lst x from rfl, e] at h0; simp at h0
    rw [if_neg hne]
    have cP := readPartsS_any d s b m len w.heap.size (w.heap.size + 1) x hs _ (fun y W hy hb => readOne_any w.heap.size (w.heap.size + 1) d s b m len y (by omega) W (hk.next hb).l.cell (hk.next hb).g (hk.next hb).l.lt (hE.below (hk.next hb).b (Nat.le_refl _)))
    have hL24 := partsM_most (startM d s b m len) 59 24 (lst x)
    obtain ⟨⟨L, E⟩, hR⟩ : ∃ R, partsM (startM d s b m len) 59 24 (lst x) = R := ⟨_, rfl⟩
    rw [hR] at cP hL24 ⊢
    dsimp only at cP hL24 ⊢
    have HK := hid hk
    have CP := hid cP
    have HL24 := hid hL24
    clear cP hE hR hk hL24 hne
    by_cases hE0 : E = 0
    · subst hE0
      rw [if_neg (by simp)]
      cases hd : dupB L with
      | true =>
        rw [if_pos rfl]
        go_enter Tryz.func89, Tryz.ntmps89
        go_wp2_with fail
        generalize (w.alloc (.cells #[.int .i64 len] 3)).alloc (.cells #[.int .i64 d, .int .i64 s, .int .i64 b, .int .i64 m] 24) = w1 at CP HK ⊢
        refine CP.out.mono ?_
        rintro e w2 ⟨⟨v, rfl, hrow⟩, hb⟩
        obtain ⟨A, c, rfl, hc1, hc2, hin⟩ := FlatIn.ofRow hrow (startVals_len L)
        have cH := hasEqualS_any A L c w2.heap.size w2 (Nat.le_refl _) (hin.mono (fun k hk => hk.2)) hc1 hc2
        rw [hd] at cH
        have CH := hid cH
        have HB := hid (HK.out.next hb).b
        clear hb hrow hin cH hd
        go_wp2_with fail
        refine CH.out.mono ?_
        rintro e w3 ⟨rfl, hb3⟩
        have HB3 := hid (HB.out.trans (hb3.mono HB.out.size))
        clear hb3
        go_wp2
        go_ret2
        exact ⟨⟨_, rfl, StartRow.nil _ _⟩, HB3.out⟩
      | false =>
        rw [if_neg (by simp)]
        go_enter Tryz.func89, Tryz.ntmps89
        go_wp2_with fail
        generalize (w.alloc (.cells #[.int .i64 len] 3)).alloc (.cells #[.int .i64 d, .int .i64 s, .int .i64 b, .int .i64 m] 24) = w1 at CP HK ⊢
        refine CP.out.mono ?_
        rintro e w2 ⟨⟨v, rfl, hrow⟩, hb⟩
        have hrow' : StartRow w2 w.heap.size v L := rowLow hrow HK.out.b.size
        obtain ⟨A, c, rfl, hc1, hc2, hin⟩ := FlatIn.ofRow hrow (startVals_len L)
        have cH := hasEqualS_any A L c w2.heap.size w2 (Nat.le_refl _) (hin.mono (fun k hk => hk.2)) hc1 hc2
        rw [hd] at cH
        have CH := hid cH
        have HB := hid (HK.out.next hb).b
        have HROW := hid hrow'
        clear hb hrow hin cH hd hrow'
        go_wp2_with fail
        refine CH.out.mono ?_
        rintro e w3 ⟨rfl, hb3⟩
        have HB3 := hid (HB.out.trans (hb3.mono HB.out.size))
        have hrow3 : StartRow w3 w.heap.size (.slice A L.length c) L := row_under HROW.out hb3
        have cS := sortStarts_any _ L w.heap.size w3 hrow3 HB3.out.size (by have := HL24.out; omega)
        have CS := hid cS
        clear hb3 hrow3 cS
        go_wp2_with fail
        refine CS.out.mono ?_
        rintro e w4 ⟨rfl, hrow4, hb4⟩
        have HB4 := hid (HB3.out.trans hb4)
        have HROW4 := hid hrow4
        clear hb4 hrow4
        go_wp2
        go_ret2
        exact ⟨⟨_, rfl, HROW4.out⟩, HB4.out⟩
    · rw [if_pos hE0]
      have e1 : (E != 0) = true := by simpa using hE0
      have e2 : (E == 0) = false := by simpa using hE0
      go_enter Tryz.func89, Tryz.ntmps89
      go_wp2_with fail
      generalize (w.alloc (.cells #[.int .i64 len] 3)).alloc (.cells #[.int .i64 d, .int .i64 s, .int .i64 b, .int .i64 m] 24) = w1 at CP HK ⊢
      refine CP.out.mono ?_
      rintro e w2 ⟨⟨v, rfl, hrow⟩, hb⟩
      obtain ⟨A, c, rfl⟩ := row_slice hrow
      have HB := hid (HK.out.next hb).b
      clear hb hrow
      go_wp2
      go_ret2
      exact ⟨⟨_, rfl, StartRow.nil _ _⟩, HB.out⟩
  · obtain ⟨x1, x2, x3, x4⟩ := str_yes h0
    have hnil := lst_nil h0
    rw [if_pos hnil]
    have HK := hid hk
    clear hk
    go_enter Tryz.func89, Tryz.ntmps89
    go_wp2
    go_ret2
    exact ⟨⟨_, rfl, StartRow.nil _ _⟩, HK.out.b⟩
end Go.Proofs.YtigdcgklpapfbaaGreatDoor.S10

