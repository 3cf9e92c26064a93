/-
  The records of classes by the specification: Write. Conditions: the classes lie in memory; the variables hold what their text lays.
-/
import Derived.Test.YtigdcgklpapfbaaGreatDoorVN01
import Derived.Test.YtigdcgklpapfbaaGreatDoorVN02
import Derived.Test.YtigdcgklpapfbaaGreatDoorVN03
import Derived.Test.YtigdcgklpapfbaaGreatDoorVN04
import Derived.Test.YtigdcgklpapfbaaGreatDoorVN05
import Derived.Test.YtigdcgklpapfbaaGreatDoorVN06
import Derived.Test.YtigdcgklpapfbaaGreatDoorVN07
import Derived.Test.YtigdcgklpapfbaaGreatDoorVN08
import Derived.Test.YtigdcgklpapfbaaGreatDoorVN09
import Derived.Test.YtigdcgklpapfbaaGreatDoorVN10
import Derived.Test.YtigdcgklpapfbaaGreatDoorVN11
import Derived.Test.YtigdcgklpapfbaaGreatDoorVN12
import Derived.Test.YtigdcgklpapfbaaGreatDoorVN13
import Derived.Test.YtigdcgklpapfbaaGreatDoorVN14
import Derived.Test.YtigdcgklpapfbaaGreatDoorVN15
import Derived.Test.YtigdcgklpapfbaaGreatDoorVN16
import Derived.Test.YtigdcgklpapfbaaGreatDoorVN17
import Derived.Test.YtigdcgklpapfbaaGreatDoorVN18
import Derived.Test.YtigdcgklpapfbaaGreatDoorVN19
import Derived.Test.YtigdcgklpapfbaaGreatDoorVN20
import Derived.Test.YtigdcgklpapfbaaGreatDoorVN21
import Derived.Test.YtigdcgklpapfbaaGreatDoorVN22
import Derived.Test.YtigdcgklpapfbaaGreatDoorVN23
import Derived.Test.YtigdcgklpapfbaaGreatDoorVN24
import Derived.Test.YtigdcgklpapfbaaGreatDoorVN25
import Derived.Test.YtigdcgklpapfbaaGreatDoorVN26
import Derived.Test.YtigdcgklpapfbaaGreatDoorVN27
import Derived.Test.YtigdcgklpapfbaaGreatDoorVN28
import Derived.Test.YtigdcgklpapfbaaGreatDoorVN29
import Derived.Test.YtigdcgklpapfbaaGreatDoorProg
import Derived.WalkKit
import Derived.WalkSpells
import Derived.WalkLawsBesides
import Derived.Lib.Hide
import Derived.Deep.QuietTactic
import Derived.BigQuiet
import Derived.Laws.Rows
import Derived.OwnWalk
import Derived.Lib.BufferWrite
import Derived.Lib.UnsafeStr
import Derived.Laws.IdiomStrings
import Derived.Laws.BytesArg
import Derived.Laws.BytesString
import Derived.Laws.OwnMore
import Derived.Lib.IndexLaws
import Derived.Lib.ItoaNum
import Derived.Lib.Atoi
import Derived.Laws.BitsAllLaws
import Derived.Laws.BitsLemmas
import Derived.Deep.MidRow
import Derived.Shelf.Strings.Builder1
import Derived.Shelf.Strings.Builder2
import Derived.Shelf.Strings.OnBuilder
import Derived.Shelf.Strings.Trim
import Derived.Shelf.Small.Bits
import Derived.Shelf.Small.Strs
import Derived.Shelf.Small.Wraps
import Derived.Shelf.Strings.BuilderF
import Derived.Shelf.Strings.BuilderK
import Derived.Shelf.Strings.Builder2Cap
import Derived.Shelf.Strconv.Atoi
import Derived.Shelf.Strconv.Itoa0
import Derived.Shelf.Strconv.Itoa1
import Derived.Shelf.LaysM
import Derived.Shelf.Strconv.Itoa2
import Derived.Shelf.Strconv.Itoa3
import Derived.Shelf.Strconv.AtoiErrFast
import Derived.Shelf.Strconv.ParseIntEmpty
import Derived.Shelf.Strconv.AtoiFail
import Derived.Shelf.Strconv.Clone
import Derived.Shelf.Strconv.SyntaxError
import Derived.Shelf.LaysC
import Derived.Shelf.Strconv.ToError
import Derived.Shelf.Strconv.AtoiErr
import Derived.Shelf.Strings.Search1
import Derived.Shelf.Strings.Search2
import Derived.Shelf.Strings.Search3
import Derived.Shelf.Strings.Cut
import Derived.Shelf.Strings.Shaped
import Derived.Shelf.Strings.Prefix
import Derived.Shelf.Strings.Runes
import Derived.Shelf.Strings.AsciiSet
import Derived.Shelf.Bits.Mul64
import Derived.Shelf.Strings.Repeat
import Derived.Shelf.Unicode.DecodeSlow
import Derived.Shelf.Strings.BuilderCap
import Derived.Shelf.Slices.Turned
import Derived.Ground.SlgfProg
import Derived.Shelf.SlicesE.IndexFunc
import Derived.Lib.AtoiErrMem
import Derived.Handy
import Derived.RangeFuncNested
import Derived.RangeFuncBound
import Derived.RangeFuncCalls
import Derived.RangeFuncLeaves
import Derived.Shelf.Abstract
import Derived.Shelf.RegionOpen
import Derived.OwnWalkIn
import Derived.Lib.Bytealg
import Derived.Lib.SlTrimSet
import Derived.Shelf.Strings.SlTrimAscii
import Derived.Laws.ResultCell
import Derived.RegionTactic
import Derived.Lib.Repeat
import Derived.Deep.RegionHeld3
import Derived.Lib.SlicesS
import Derived.TacticsInMore
import Derived.LoopNIn
import Derived.LoopIn
import Derived.Deep.DeepCutAuto
import Derived.Lib.Join
import Derived.Laws.Concat
import Derived.Maps.OwnSet
import Derived.Maps.Range
import Derived.Sort.EncStr
import Derived.Deep.RegionLaw
import Derived.Sort.Grow
import Derived.Shelf.SlGeneric
import Derived.Shelf.SlSortCmp.NoneTotal
import Derived.Ground.SlsfProg
import Derived.Sort.OwnSorted
import Derived.RangeFuncBox
import Derived.Sort.Walk0
import Derived.Lib.AppendIntMem
import Derived.Lib.QuietBelow
import Derived.WalkMore
import Derived.Maps.AppendAt
import Derived.Deep.CutBlock
import Derived.StillTailTactics
import Derived.Deep.AppendLies
set_option linter.unusedVariables false
namespace Go.Proofs.YtigdcgklpapfbaaGreatDoor.S10
open Go Go.Proofs Go.RowKit Go.Lib Go.Proofs.YtigdcgklpapfbaaGreatDoor
open Go.Sort

theorem joinZ_snoc (z : UInt8) (ps : List Str) (x : Str) (h : ps ≠ []) : Lib.join (ps ++ [x]) [z] = Lib.join ps [z] ++ z :: x := by
  cases ps with
  | nil => exact absurd rfl h
  | cons p r =>
    rw [List.cons_append, Lib.join_cons, Lib.join_cons]
    simp [Lib.joinTail]
theorem startsGo_all (f : StartD → Bool) : ∀ (p : Option StartD) (l : List StartD), startsGo f p l = true → ∀ t ∈ l, f t = true
  | _, [], _, t, ht => by simp at ht
  | p, a :: r, h, t, ht => by
    rw [startsGo, Bool.and_eq_true, Bool.and_eq_true] at h
    rcases List.mem_cons.1 ht with rfl | ht
    · exact h.1.1
    · exact startsGo_all f _ r h.2 t ht
theorem checkM_fit {d s b m n : Int} {x : ClassD} (h : checkM d s b m n x = 0) : ∀ t ∈ x.starts, fitS d s b m x.len t = true := by
  cases hs : startsB d s b m x.len x.starts with
  | true => exact startsGo_all _ _ _ hs
  | false =>
    unfold checkM at h
    rw [hs] at h
    repeat' split at h
    all_goals simp_all
/-- The grid's box, the class's own. -/
structure WX (w0 : World) (d s b m : Int) (K : Nat) (a : Array Value) (W : World) : Prop where
  g : K1 w0 d s b m W
  x : BoxC W K a
theorem k1_grown {w0 w w' : World} {d s b m : Int} {row : Option Nat} (h : K1 w0 d s b m w) (hg : w.grownBy w' row) (hr : ∀ k, row = some k → w0.heap.size + 1 ≤ k) : K1 w0 d s b m w' := by
  have hx := h.x
  have kc : ∀ o : Nat, w'.cell? ⟨w0.heap.size, o, none⟩ = w.cell? ⟨w0.heap.size, o, none⟩ := fun o => World.cell?_of_block (w := w) (hg.block _ hx.lt (fun e => by have e2 : w0.heap.size + 1 ≤ w0.heap.size := hr _ e.symm; omega))
  exact ⟨⟨(kc 0).trans hx.c0, (kc 1).trans hx.c1, (kc 2).trans hx.c2, (kc 3).trans hx.c3, Nat.lt_of_lt_of_le hx.lt hg.size⟩, h.b.trans (((Below.refl _ w).grown hg h.b.size (fun k e => by have := hr k e; omega)))⟩
theorem WX.grown {w0 w w' : World} {d s b m : Int} {K : Nat} {a : Array Value} {row : Option Nat} (h : WX w0 d s b m K a w) (hg : w.grownBy w' row) (hr : ∀ k, row = some k → w0.heap.size + 1 ≤ k ∧ k < K) : WX w0 d s b m K a w' :=
  ⟨k1_grown h.g hg (fun k e => (hr k e).1), h.x.kept (hg.block _ h.x.lt (fun e => by have := (hr _ e.symm).2; omega))⟩
theorem WX.next {w0 W W' : World} {d s b m : Int} {K : Nat} {a : Array Value} (h : WX w0 d s b m K a W) (k : Below W.heap.size W W') : WX w0 d s b m K a W' := ⟨h.g.next k, h.x.next k⟩

set_option maxHeartbeats 16000000 in
set_option maxRecDepth 100000 in
theorem rkwrite_any (d s b m n : Int) (A : Option Addr) (l : List ClassD) (c : Nat) (w : World) (h : ClassesIn w (fun k => k < w.heap.size) A l) (hE : REnv7 w) :
    Calls Tryz.prog 9 #[.slice A l.length c, .agg #[.int .i64 d, .int .i64 s, .int .i64 b, .int .i64 m], .int .i64 n] w (WriteOut (writeK d s b m n l) w) := by
  obtain ⟨iS, hiS, hzS, hsS, hbS⟩ := info_parts infoStrs7
  unfold WriteOut writeK
  have hk := K1.first w d s b m 24
  have HK := hid hk
  have HH := hid (fun (w' : World) (hb : Below w.heap.size w w') => h.below hb)
  have HE := hid (fun (w' : World) (hb : Below w.heap.size w w') => hE.below hb (Nat.le_refl _))
  have cV : Hid (∀ w', Below w.heap.size w w' → Calls Tryz.prog 17 #[.slice A l.length c, .agg #[.int .i64 d, .int .i64 s, .int .i64 b, .int .i64 m], .int .i64 n] w' (Says (.int .i64 (validK d s b m n l)) w')) :=
    hid (fun w' hb => rkvalid_any d s b m n A l c w' ((h.below hb).mono (fun k hk => Nat.lt_of_lt_of_le hk hb.size)))
  have cV' := cV.out
  unfold Says at cV'
  obtain ⟨R, hR⟩ : ∃ R, validK d s b m n l = R := ⟨_, rfl⟩
  rw [hR] at cV' ⊢
  have CV := hid cV'
  clear hk h hE cV cV'
  by_cases hR0 : R = 0
  · subst hR0
    obtain ⟨h16, hs24, hok⟩ := validK_ok hR
    have HS24 := hid hs24
    have HOK := hid hok
    rw [if_neg (by simp)]
    clear hR hok hs24
    go_enter Tryz.func9, Tryz.ntmps9
    go_wp2_with fail
    refine (CV.out _ HK.out.b).mono ?_
    rintro e w1 ⟨rfl, hb⟩
    have HK1 := hid (HK.out.next hb)
    clear hb HK CV
    go_wp2
    go_loopw [9, 10] (fun v iv wr => ∃ (i : Nat) (L : List RowA), iv = .int .i64 (i : Int) ∧ i ≤ l.length ∧ Hid (L.map (·.1) = (l.take i).map (rowK d s b m n)) ∧ Hid (RowsRow wr (w.heap.size + 1) v L) ∧ Hid (K1 w d s b m wr)) (fun _ iv _ => l.length - (RowKit.intOf iv).toNat)
    case atStart => exact ⟨0, [], rfl, Nat.zero_le _, hid rfl, hid (RowsRow.nil _ _), hid HK1.out⟩
    case round =>
      obtain ⟨i, L, rfl, hi, hL, hrow, hKK⟩ := hrel
      obtain ⟨Ar, cr, hvr, _⟩ := hrow.out.rowsIn
      subst hvr
      have hLl : L.length = i := by
        have := congrArg List.length hL.out
        rw [List.length_map, List.length_map, List.length_take] at this
        omega
      have HLL := hid hLl
      clear hLl
      by_cases hlt : i < l.length
      · have hltz : (i : Int) < (l.length : Int) := by omega
        have di : decide (l.length ≤ i) = false := decide_eq_false (by omega)
        obtain ⟨fb, fo, q, rfl, hfb, hri, hat⟩ := (HH.out _ hKK.out.b).at_ hlt
        have hok5 := checkM_ok HS24.out (HOK.out _ (List.getElem_mem hlt))
        have hfit := checkM_fit (HOK.out _ (List.getElem_mem hlt))
        have hst : (l.take (i + 1)).map (rowK d s b m n) = L.map (·.1) ++ [rowK d s b m n l[i]] := by rw [hL.out, List.take_succ_eq_append_getElem hlt, List.map_append]; rfl
        obtain ⟨⟨c0, c1, c2, len, pats, seats, feats, staff, starts⟩, hr⟩ : ∃ r, l[i] = r := ⟨_, rfl⟩
        obtain ⟨aP, cP, aF, cF, aS, cS, aT, cT⟩ := q
        rw [hr] at hat hst hri hok5 hfit
        obtain ⟨hp, hf, hs, ht, p1, p2, f1, f2, s1, s2, t1, t2⟩ := hri
        unfold ClassAt at hat
        dsimp only at hat hp hf hs ht p1 p2 f1 f2 s1 s2 t1 t2 hok5
        obtain ⟨y0, y1, y2, y3, y4, y5, y6, y7, y8⟩ := hat
        have hX := BoxC.new wr (clsArr ⟨c0, c1, c2, len, pats, seats, feats, staff, starts⟩ ⟨aP, cP, aF, cF, aS, cS, aT, cT⟩)
        have hb1 := (Below.refl wr.heap.size wr).alloc (Nat.le_refl _) (.cells (clsArr ⟨c0, c1, c2, len, pats, seats, feats, staff, starts⟩ ⟨aP, cP, aF, cF, aS, cS, aT, cT⟩) 33)
        have hK1 := hKK.out.next hb1
        unfold clsArr at hX hb1 hK1
        dsimp only at hX hb1 hK1
        have HWX : Hid (WX w d s b m wr.heap.size #[.string (ba c0), .string (ba c1), .string (ba c2), .int .i64 len, .slice aP pats.length cP, .int .i64 seats, .slice aF feats.length cF, .slice aS staff.length cS, .slice aT starts.length cT] _) := hid ⟨hK1, hX⟩
        have HB1 := hid hb1
        have HP := hid hp
        have HTT := hid ht
        have HFIT := hid hfit
        have hs24' : starts.length ≤ 24 := hok5.2.2.2.2.2
        have HR1 := hid (row_under hrow.out.1 hb1)
        have HOK5 := hid hok5
        have hp8 : pats.length ≤ 8 := hok5.2.2.2.2.1
        clear hr hp ht hfit hX hb1 hK1 hok5
        go_wp2
        clear y0 y1 y2 y3 y4 y5 y6 y7 y8
        generalize World.alloc _ _ = w1 at HWX HB1 HR1 ⊢
        have HZ1 : Hid (wr.heap.size ≤ w1.heap.size) := hid HB1.out.size
        have HKW : Hid (∀ b, b < w.heap.size → w1.heap[b]? = wr.heap[b]?) := hid (fun b hb => HB1.out.block b (Nat.lt_of_lt_of_le hb hKK.out.b.size))
        have HZ2 : Hid (w.heap.size ≤ w1.heap.size) := hid (Nat.le_trans hKK.out.b.size HB1.out.size)
        obtain ⟨K0, hK0⟩ : ∃ K0, wr.heap.size = K0 := ⟨_, rfl⟩
        have HROWB : Hid (∀ k, (Value.slice Ar L.length cr).ownBlock = some k → w.heap.size + 1 ≤ k ∧ k < K0) := hid (fun k hk => by rw [← hK0]; exact World.ownsRow.lt hrow.out.1 k hk)
        have HROW0 := hid hrow.out
        have HB10 := hid HB1.out
        rw [hK0] at HWX ⊢
        go_loopw [12, 14, 15, 16] (fun pv kv _ _ wq => ∃ k : Nat, kv = .int .i64 (k : Int) ∧ k ≤ pats.length ∧ pv = .string (ba (Lib.join ((pats.take k).map (patS n)) [47])) ∧ Hid (WX w d s b m K0 #[.string (ba c0), .string (ba c1), .string (ba c2), .int .i64 len, .slice aP pats.length cP, .int .i64 seats, .slice aF feats.length cF, .slice aS staff.length cS, .slice aT starts.length cT] wq) ∧ Hid (Below w1.heap.size w1 wq)) (fun _ kv _ _ _ => pats.length - (RowKit.intOf kv).toNat)
        case atStart => exact ⟨0, rfl, Nat.zero_le _, rfl, HWX, hid (Below.refl _ _)⟩
        case round =>
          obtain ⟨k, rfl, hk, rfl, hX2, hB2⟩ := hrel
          obtain ⟨x0, x1, x2, x3, x4, x5, x6, x7, x8⟩ := hX2.out.x.cells
          by_cases hkl : k < pats.length
          · have hklz : (k : Int) < (pats.length : Int) := by omega
            have dk : decide (pats.length ≤ k) = false := decide_eq_false (by omega)
            have hP2 : NumsIn wr (fun b => b < w.heap.size) aP pats := HP.out.kept (fun b hb => (hB2.out.block b (Nat.lt_of_lt_of_le hb HZ2.out)).trans (HKW.out b hb))
            obtain ⟨pb, po, rfl, _, p0⟩ := hP2.num hkl
            have hlen := joinZ_len 47 ((pats.take k).map (patS n)) (fun p hp => by obtain ⟨t, _, rfl⟩ := List.mem_map.1 hp; exact patS_len _ t)
            rw [List.length_map, List.length_take, Nat.min_eq_left hk] at hlen
            have hjk : (pats.take (k + 1)).map (patS n) = (pats.take k).map (patS n) ++ [patS n pats[k]] := by rw [List.take_succ_eq_append_getElem hkl, List.map_append]; rfl
            have htl := patS_len n pats[k]
            have cF := rformat_any pats[k] n
            have hts : (formM pats[k] n).1 = patS n pats[k] := rfl
            have hnil : k ≠ 0 → (pats.take k).map (patS n) ≠ [] := fun h0 e => by have := congrArg List.length e; rw [List.length_map, List.length_take, Nat.min_eq_left hk] at this; exact h0 this
            have hz0 : k = 0 → (pats.take k).map (patS n) = [] := fun h0 => by rw [h0]; rfl
            have hsn := joinZ_snoc 47 ((pats.take k).map (patS n)) (patS n pats[k])
            obtain ⟨J, hJ⟩ : ∃ J, Lib.join ((pats.take k).map (patS n)) [47] = J := ⟨_, rfl⟩
            obtain ⟨y, hy⟩ : ∃ y, pats[k] = y := ⟨_, rfl⟩
            rw [hJ] at hlen hsn ⊢
            rw [hy] at p0 hjk htl cF hts hsn
            obtain ⟨⟨tx, te⟩, hR⟩ : ∃ R, formM y n = R := ⟨_, rfl⟩
            unfold FormOut at cF
            rw [hR] at cF hts
            dsimp only at cF hts
            rw [← hts] at htl hjk hsn
            have HW := hid (HE.out wr hX2.out.g.b).wd
            have CF := hid cF
            by_cases h0 : k = 0
            · have h0d : decide ((0 : Int) < (k : Int)) = false := decide_eq_false (by omega)
              have h0e : decide (0 < k) = false := decide_eq_false (by omega)
              have hJ0 : J = [] := by rw [← hJ, hz0 h0]; rfl
              have hnew : Hid (Lib.join ((pats.take (k + 1)).map (patS n)) [47] = tx) := hid (by rw [hjk, hz0 h0]; exact Lib.join_one _ _)
              have sA := add_ba [] tx (by simp; omega)
              rw [hJ0]
              clear hlen hjk htl cF hts hnil hz0 hsn hJ hy hR h0 hJ0
              go_wp2_with fail
              refine (CF.out wr HW.out).mono ?_
              rintro e w3 ⟨rfl, hb3⟩
              have HX3 := hid (hX2.out.next hb3)
              have HB3 := hid (hB2.out.trans (hb3.mono hB2.out.size))
              clear hb3 x0 x1 x2 x3 x4 x5 x6 x7 x8
              go_wp2
              go_roundw
              case rel => exact ⟨k + 1, by go_num, by omega, by rw [hnew.out], HX3, HB3⟩
              case measure => simp [RowKit.intOf]; omega
            · have h0d : decide ((0 : Int) < (k : Int)) = true := decide_eq_true (by omega)
              have h0e : decide (0 < k) = true := decide_eq_true (by omega)
              have hnew : Hid (Lib.join ((pats.take (k + 1)).map (patS n)) [47] = (J ++ [47]) ++ tx) := hid (by rw [hjk, hsn (hnil h0)]; simp)
              have sA : ∀ w, (Op.stringOp .add (ba J) ⟨#[47]⟩).run Tryz.prog w = .ok (.string (ba (J ++ [47]))) w := add_ba J [47] (by simp; omega)
              have sB := add_ba (J ++ [47]) tx (by simp; omega)
              clear hlen hjk htl cF hts hnil hz0 hsn hJ hy hR h0
              go_wp2_with fail
              refine (CF.out wr HW.out).mono ?_
              rintro e w3 ⟨rfl, hb3⟩
              have HX3 := hid (hX2.out.next hb3)
              have HB3 := hid (hB2.out.trans (hb3.mono hB2.out.size))
              clear hb3 x0 x1 x2 x3 x4 x5 x6 x7 x8
              go_wp2
              go_roundw
              case rel => exact ⟨k + 1, by go_num, by omega, by rw [hnew.out]; simp, HX3, HB3⟩
              case measure => simp [RowKit.intOf]; omega
          · have hklz : ¬ (k : Int) < (pats.length : Int) := by omega
            have hpe : Lib.join ((pats.take k).map (patS n)) [47] = patsS n pats := by rw [List.take_of_length_le (by omega)]; rfl
            rw [hpe]
            clear hpe
            go_wp2
            clear x0 x1 x2 x3 x4 x5 x6 x7 x8
            go_loopw [13, 17] (fun sv kv wq => ∃ k : Nat, kv = .int .i64 (k : Int) ∧ k ≤ starts.length ∧ sv = .string (ba (S3.semi ((starts.take k).map (startS d s b m)))) ∧ Hid (WX w d s b m K0 #[.string (ba c0), .string (ba c1), .string (ba c2), .int .i64 len, .slice aP pats.length cP, .int .i64 seats, .slice aF feats.length cF, .slice aS staff.length cS, .slice aT starts.length cT] wq) ∧ Hid (Below w1.heap.size w1 wq)) (fun _ kv _ => starts.length - (RowKit.intOf kv).toNat)
            case atStart => exact ⟨0, rfl, Nat.zero_le _, rfl, hX2, hB2⟩
            case round =>
              clear hX2 hB2
              obtain ⟨k, rfl, hk, rfl, hX2, hB2⟩ := hrel
              obtain ⟨x0, x1, x2, x3, x4, x5, x6, x7, x8⟩ := hX2.out.x.cells
              by_cases hkl : k < starts.length
              · have hklz : (k : Int) < (starts.length : Int) := by omega
                have dk : decide (starts.length ≤ k) = false := decide_eq_false (by omega)
                have hT2 : StartsIn wr (fun b => b < w.heap.size) aT starts := HTT.out.kept (fun b hb => (hB2.out.block b (Nat.lt_of_lt_of_le hb HZ2.out)).trans (HKW.out b hb))
                obtain ⟨pb, po, rfl, _, p0, p1⟩ := hT2.start hkl
                have hlen := semi_len300 ((starts.take k).map (startS d s b m)) (fun p hp => by obtain ⟨t, _, rfl⟩ := List.mem_map.1 hp; exact timeS_len _ _ _ _ _ _)
                rw [List.length_map, List.length_take, Nat.min_eq_left hk] at hlen
                have hjk : (starts.take (k + 1)).map (startS d s b m) = (starts.take k).map (startS d s b m) ++ [startS d s b m starts[k]] := by rw [List.take_succ_eq_append_getElem hkl, List.map_append]; rfl
                obtain ⟨y, u, hyu, hy7, hu24, hSt⟩ := startS_eq (HFIT.out _ (List.getElem_mem hkl))
                have hnil : k ≠ 0 → (starts.take k).map (startS d s b m) ≠ [] := fun h0 e => by have := congrArg List.length e; rw [List.length_map, List.length_take, Nat.min_eq_left hk] at this; exact h0 this
                have hz0 : k = 0 → (starts.take k).map (startS d s b m) = [] := fun h0 => by rw [h0]; rfl
                have hsn := joinZ_snoc 59 ((starts.take k).map (startS d s b m)) (startS d s b m starts[k])
                rw [S3.semi_join, S3.semi_join] at hsn
                have hd2 : (dayS y).length ≤ 2 := by unfold dayS; split <;> simp
                have hdd : (decDigits (u + 1)).length ≤ 2 := dd_len 1 (u + 1) (by omega)
                rw [hyu] at p0 p1
                dsimp only at p0 p1
                rw [hSt] at hjk hsn
                have cN : ∀ d' os, Calls Tryz.prog 37 #[.int .i64 (y : Int)] (grow (redrawn wr d') os) fun e w'' => e = .returned (.string (ba (dayS y))) ∧ ∃ p : Regrown, w'' = grow (redrawn wr p.d) p.os := fun d' os => Calls.regrown_of ((rname_any y hy7 _ (HE.out _ (hX2.out.next (below_regrown wr d' os)).g.b).d).mono (fun e w' h => ⟨h.1, h.2 ▸ Below.refl _ _⟩))
                have cD : ∀ d' os, Calls Tryz.prog 38 #[.int .i64 ((u : Int) + 1)] (grow (redrawn wr d') os) fun e w'' => e = .returned (.string (ba (decDigits (u + 1)))) ∧ ∃ p : Regrown, w'' = grow (redrawn wr p.d) p.os := fun d' os => Calls.regrown_of (by
                  have h := rdec4_any ((u : Int) + 1) (by omega) (by omega) (grow (redrawn wr d') os)
                  rw [show ((u : Int) + 1).toNat = u + 1 by omega] at h
                  exact h)
                have q1 : IntKind.i64.wrap ((u : Int) + 1) = (u : Int) + 1 := IntWalk.i64_in _ (by omega)
                have e1 : ∀ w, (Op.stringOp .add (ba (dayS y)) ⟨#[32]⟩).run Tryz.prog w = .ok (.string (ba (dayS y ++ [32]))) w := add_ba (dayS y) [32] (by simp; omega)
                have e2 := add_ba (dayS y ++ [32]) (decDigits (u + 1)) (by simp; omega)
                have a8 := cell_regrown x8
                have b0 := cell_regrown p0
                have b1 := cell_regrown p1
                obtain ⟨D, hD⟩ : ∃ D, decDigits (u + 1) = D := ⟨_, rfl⟩
                obtain ⟨Y, hY⟩ : ∃ Y, dayS y = Y := ⟨_, rfl⟩
                obtain ⟨J, hJ⟩ : ∃ J, S3.semi ((starts.take k).map (startS d s b m)) = J := ⟨_, rfl⟩
                rw [hD] at cD e2 hdd hjk hsn
                rw [hY] at cN e1 e2 hd2 hjk hsn
                rw [hJ] at hlen hsn ⊢
                have CN := hid cN
                have CD := hid cD
                by_cases h0 : k = 0
                · have h0d : decide ((0 : Int) < (k : Int)) = false := decide_eq_false (by omega)
                  have h0e : decide (0 < k) = false := decide_eq_false (by omega)
                  have hJ0 : J = [] := by rw [← hJ, hz0 h0]; rfl
                  have hnew : Hid (S3.semi ((starts.take (k + 1)).map (startS d s b m)) = Y ++ 32 :: D) := hid (by rw [hjk, hz0 h0]; rfl)
                  have sB := add_ba [] (Y ++ 32 :: D) (by simp; omega)
                  rw [hJ0]
                  clear hlen hjk hnil hz0 hsn hJ hD hY h0 hJ0 cN cD hSt hyu hdd hd2 x0 x1 x2 x3 x4 x5 x6 x7 p0 p1 hT2
                  go_wp2
                  clear x8
                  refine wp_region_quiet_below (by kernel_rfl) (by kernel_rfl) ?_
                  repeat (go_big_quiet_step (first | exact CN.out _ _ | exact CD.out _ _))
                  refine wpQuiet_nil ?_
                  intro _ hw'
                  obtain ⟨⟨dq, osq⟩, hw''⟩ := hw'
                  subst hw''
                  have HX3 := hid (hX2.out.next (below_regrown wr dq osq))
                  have HB3 := hid (hB2.out.trans ((below_regrown wr dq osq).mono hB2.out.size))
                  go_wp2
                  go_roundw
                  case rel => exact ⟨k + 1, by go_num, by omega, by rw [hnew.out], HX3, HB3⟩
                  case measure => simp [RowKit.intOf]; omega
                · have h0d : decide ((0 : Int) < (k : Int)) = true := decide_eq_true (by omega)
                  have h0e : decide (0 < k) = true := decide_eq_true (by omega)
                  have hnew : Hid (S3.semi ((starts.take (k + 1)).map (startS d s b m)) = J ++ 59 :: (Y ++ 32 :: D)) := hid (by rw [hjk, hsn (hnil h0)])
                  have sA : ∀ w, (Op.stringOp .add (ba J) ⟨#[59]⟩).run Tryz.prog w = .ok (.string (ba (J ++ [59]))) w := add_ba J [59] (by simp; omega)
                  have sB := add_ba (J ++ [59]) (Y ++ 32 :: D) (by simp; omega)
                  clear hlen hjk hnil hz0 hsn hJ hD hY h0 cN cD hSt hyu hdd hd2 x0 x1 x2 x3 x4 x5 x6 x7 p0 p1 hT2
                  go_wp2
                  clear x8
                  refine wp_region_quiet_below (by kernel_rfl) (by kernel_rfl) ?_
                  repeat (go_big_quiet_step (first | exact CN.out _ _ | exact CD.out _ _))
                  refine wpQuiet_nil ?_
                  intro _ hw'
                  obtain ⟨⟨dq, osq⟩, hw''⟩ := hw'
                  subst hw''
                  have HX3 := hid (hX2.out.next (below_regrown wr dq osq))
                  have HB3 := hid (hB2.out.trans ((below_regrown wr dq osq).mono hB2.out.size))
                  go_wp2
                  go_roundw
                  case rel => exact ⟨k + 1, by go_num, by omega, by rw [hnew.out], HX3, HB3⟩
                  case measure => simp [RowKit.intOf]; omega
              · have hklz : ¬ (k : Int) < (starts.length : Int) := by omega
                have hse : S3.semi ((starts.take k).map (startS d s b m)) = startsS d s b m starts := by rw [List.take_of_length_le (by omega)]; rfl
                rw [hse]
                have cB := fun (W : World) (hb : Below w1.heap.size w1 W) => S3.rjoin_any aF feats cF W (((S3.StrsIn.kept hf (fun b hb' => (hb.block b (Nat.lt_of_lt_of_le hb' HZ2.out)).trans (HKW.out b hb'))).mono (fun k hk => Nat.lt_of_lt_of_le hk (Nat.le_trans HZ2.out hb.size)))) f1 f2
                have cC := fun (W : World) (hb : Below w1.heap.size w1 W) => S3.rjoin_any aS staff cS W (((S3.StrsIn.kept hs (fun b hb' => (hb.block b (Nat.lt_of_lt_of_le hb' HZ2.out)).trans (HKW.out b hb'))).mono (fun k hk => Nat.lt_of_lt_of_le hk (Nat.le_trans HZ2.out hb.size)))) s1 s2
                unfold S3.JoinOut at cB cC
                have hj1 : S3.ba (if S3.checkM feats = 0 then S3.joinM feats else []) = ba (featsS feats) := rfl
                have hj2 : S3.ba (if S3.checkM staff = 0 then S3.joinM staff else []) = ba (featsS staff) := rfl
                rw [hj1] at cB
                rw [hj2] at cC
                have CB := hid cB
                have CC := hid cC
                clear cB cC hj1 hj2 hse
                go_wp2_with fail
                refine (CB.out _ hB2.out).mono ?_
                rintro e w3 ⟨rfl, hb3⟩
                have hX3 := hX2.out.next hb3
                have HB3 := hid (hB2.out.trans (hb3.mono hB2.out.size))
                have HX3 := hid hX3
                clear x0 x1 x2 x3 x4 x5 x6 x7 x8 hb3
                obtain ⟨x0, x1, x2, x3, x4, x5, x6, x7, x8⟩ := hX3.x.cells
                clear hX3
                go_wp2_with fail
                refine (CC.out _ HB3.out).mono ?_
                rintro e w4 ⟨rfl, hb4⟩
                have HX4 := hid (HX3.out.next hb4)
                have HB4 := hid (HB3.out.trans (hb4.mono HB3.out.size))
                clear x0 x1 x2 x3 x4 x5 x6 x7 x8 hb4
                go_upto_region 25 with fail
                have cL := fun W => rdec4_any len HOK5.out.1 HOK5.out.2.1 W
                have cE := fun W => rdec4_any seats HOK5.out.2.2.1 HOK5.out.2.2.2.1 W
                unfold Says at cL cE
                obtain ⟨X0, hX0⟩ : ∃ X, ba (c0) = X := ⟨_, rfl⟩
                obtain ⟨X1, hX1⟩ : ∃ X, ba (c1) = X := ⟨_, rfl⟩
                obtain ⟨X2, hX2⟩ : ∃ X, ba (c2) = X := ⟨_, rfl⟩
                obtain ⟨X3, hX3⟩ : ∃ X, ba (decDigits len.toNat) = X := ⟨_, rfl⟩
                obtain ⟨X4, hX4⟩ : ∃ X, ba (patsS n pats) = X := ⟨_, rfl⟩
                obtain ⟨X5, hX5⟩ : ∃ X, ba (decDigits seats.toNat) = X := ⟨_, rfl⟩
                obtain ⟨X6, hX6⟩ : ∃ X, ba (featsS feats) = X := ⟨_, rfl⟩
                obtain ⟨X7, hX7⟩ : ∃ X, ba (featsS staff) = X := ⟨_, rfl⟩
                obtain ⟨X8, hX8⟩ : ∃ X, ba (startsS d s b m starts) = X := ⟨_, rfl⟩
                obtain ⟨RW, hRW⟩ : ∃ r, rowK d s b m n ⟨c0, c1, c2, len, pats, seats, feats, staff, starts⟩ = r := ⟨_, rfl⟩
                have hrw9 : RW.length = 9 := by rw [← hRW]; rfl
                have hrwv : S3.strVals RW = [.string X0, .string X1, .string X2, .string X3, .string X4, .string X5, .string X6, .string X7, .string X8] := by rw [← hRW, ← hX0, ← hX1, ← hX2, ← hX3, ← hX4, ← hX5, ← hX6, ← hX7, ← hX8]; rfl
                rw [hRW] at hst
                rw [hX3] at cL
                rw [hX5] at cE
                have HX5 := HX4
                rw [hX0, hX1, hX2] at HX5
                rw [hX4, hX6, hX7, hX8]
                have CL := hid cL
                have CE := hid cE
                have HST := hid hst
                have HR5 := hid hrw9
                have HRV := hid hrwv
                have HBD := HB4
                clear cL cE hst hrw9 hrwv hRW hX0 hX1 hX2 hX3 hX4 hX5 hX6 hX7 hX8
                refine wp_region_held_drew (S := WX w d s b m K0 #[.string X0, .string X1, .string X2, .int .i64 len, .slice aP pats.length cP, .int .i64 seats, .slice aF feats.length cF, .slice aS staff.length cS, .slice aT starts.length cT]) (by kernel_rfl) (HX5.out.next (Below.refl _ _).drew) (fun hHeld => ?_)
                have HBD := hid (HBD.out.trans ((Below.refl w4.heap.size w4).drew.mono HBD.out.size))
                (refine wpAnyH_take (i := 0) (oi := _) (v := ?_) rfl (by kernel_rfl) (by kernel_rfl) (by kernel_rfl) (fun _ _ _ h => h) (Or.inl ⟨by rfl, ?_⟩) (by assumption) ?_; rotate_left; (intro wS hSw; obtain ⟨x0, x1, x2, x3, x4, x5, x6, x7, x8⟩ := hSw.x.cells; (try simp only [List.getElem_toArray, List.getElem_cons_zero]); go_simp; (try with_reducible rfl)))
                try simp only [List.getElem_toArray, List.getElem_cons_zero, Act.put, List.setIfInBounds_toArray, List.set_cons_zero, List.set_cons_succ]
                (refine wpAnyH_take (i := 1) (oi := _) (v := ?_) rfl (by kernel_rfl) (by kernel_rfl) (by kernel_rfl) (fun _ _ _ h => h) (Or.inl ⟨by rfl, ?_⟩) (by assumption) ?_; rotate_left; (intro wS hSw; obtain ⟨x0, x1, x2, x3, x4, x5, x6, x7, x8⟩ := hSw.x.cells; (try simp only [List.getElem_toArray, List.getElem_cons_succ, List.getElem_cons_zero]); go_simp; (try with_reducible rfl)))
                try simp only [List.getElem_toArray, List.getElem_cons_succ, List.getElem_cons_zero, Act.put, List.setIfInBounds_toArray, List.set_cons_zero, List.set_cons_succ]
                (refine wpAnyH_take (i := 2) (oi := _) (v := ?_) rfl (by kernel_rfl) (by kernel_rfl) (by kernel_rfl) (fun _ _ _ h => h) (Or.inl ⟨by rfl, ?_⟩) (by assumption) ?_; rotate_left; (intro wS hSw; obtain ⟨x0, x1, x2, x3, x4, x5, x6, x7, x8⟩ := hSw.x.cells; (try simp only [List.getElem_toArray, List.getElem_cons_succ, List.getElem_cons_zero]); go_simp; (try with_reducible rfl)))
                try simp only [List.getElem_toArray, List.getElem_cons_succ, List.getElem_cons_zero, Act.put, List.setIfInBounds_toArray, List.set_cons_zero, List.set_cons_succ]
                (refine wpAnyH_take (i := 3) (oi := _) (v := ?_) rfl (by kernel_rfl) (by kernel_rfl) (by kernel_rfl) (fun _ _ _ h => h) (Or.inl ⟨by rfl, ?_⟩) (by assumption) ?_; rotate_left; (intro wS hSw; obtain ⟨x0, x1, x2, x3, x4, x5, x6, x7, x8⟩ := hSw.x.cells; (try simp only [List.getElem_toArray, List.getElem_cons_succ, List.getElem_cons_zero]); go_simp; (try with_reducible rfl)))
                try simp only [List.getElem_toArray, List.getElem_cons_succ, List.getElem_cons_zero, Act.put, List.setIfInBounds_toArray, List.set_cons_zero, List.set_cons_succ]
                (refine wpAnyH_take (i := 4) (oi := _) (v := ?_) rfl (by kernel_rfl) (by kernel_rfl) (by kernel_rfl) (fun _ _ _ h => h) (Or.inl ⟨by rfl, ?_⟩) (by assumption) ?_; rotate_left; (intro wS hSw; obtain ⟨x0, x1, x2, x3, x4, x5, x6, x7, x8⟩ := hSw.x.cells; (try simp only [List.getElem_toArray, List.getElem_cons_succ, List.getElem_cons_zero]); go_simp; (try with_reducible rfl)))
                try simp only [List.getElem_toArray, List.getElem_cons_succ, List.getElem_cons_zero, Act.put, List.setIfInBounds_toArray, List.set_cons_zero, List.set_cons_succ]
                (refine wpAnyH_take (i := 5) (oi := _) (v := ?_) rfl (by kernel_rfl) (by kernel_rfl) (by kernel_rfl) (fun _ _ _ h => h) (Or.inl ⟨by rfl, ?_⟩) (by assumption) ?_; rotate_left; (intro wS hSw; obtain ⟨x0, x1, x2, x3, x4, x5, x6, x7, x8⟩ := hSw.x.cells; (try simp only [List.getElem_toArray, List.getElem_cons_succ, List.getElem_cons_zero]); go_simp; (try with_reducible rfl)))
                try simp only [List.getElem_toArray, List.getElem_cons_succ, List.getElem_cons_zero, Act.put, List.setIfInBounds_toArray, List.set_cons_zero, List.set_cons_succ]
                (refine wpAnyH_take (i := 6) (oi := _) (v := ?_) rfl (by kernel_rfl) (by kernel_rfl) (by kernel_rfl) (fun _ _ _ h => h) (Or.inl ⟨by rfl, ?_⟩) (by assumption) ?_; rotate_left; (intro wS hSw; obtain ⟨x0, x1, x2, x3, x4, x5, x6, x7, x8⟩ := hSw.x.cells; (try simp only [List.getElem_toArray, List.getElem_cons_succ, List.getElem_cons_zero]); go_simp; (try with_reducible rfl)))
                try simp only [List.getElem_toArray, List.getElem_cons_succ, List.getElem_cons_zero, Act.put, List.setIfInBounds_toArray, List.set_cons_zero, List.set_cons_succ]
                (refine wpAnyH_take (i := 7) (oi := _) (v := ?_) rfl (by kernel_rfl) (by kernel_rfl) (by kernel_rfl) (fun _ _ _ h => h) (Or.inl ⟨by rfl, ?_⟩) (by assumption) ?_; rotate_left; (intro wS hSw; obtain ⟨x0, x1, x2, x3, x4, x5, x6, x7, x8⟩ := hSw.x.cells; (try simp only [List.getElem_toArray, List.getElem_cons_succ, List.getElem_cons_zero]); go_simp; (try with_reducible rfl)))
                try simp only [List.getElem_toArray, List.getElem_cons_succ, List.getElem_cons_zero, Act.put, List.setIfInBounds_toArray, List.set_cons_zero, List.set_cons_succ]
                (refine wpAnyH_take (i := 8) (oi := _) (v := ?_) rfl (by kernel_rfl) (by kernel_rfl) (by kernel_rfl) (fun _ _ _ h => h) (Or.inl ⟨by rfl, ?_⟩) (by assumption) ?_; rotate_left; (intro wS hSw; obtain ⟨x0, x1, x2, x3, x4, x5, x6, x7, x8⟩ := hSw.x.cells; (try simp only [List.getElem_toArray, List.getElem_cons_succ, List.getElem_cons_zero]); go_simp; (try with_reducible rfl)))
                try simp only [List.getElem_toArray, List.getElem_cons_succ, List.getElem_cons_zero, Act.put, List.setIfInBounds_toArray, List.set_cons_zero, List.set_cons_succ]
                (refine wpAnyH_take (i := 10) (oi := _) (v := ?_) rfl (by kernel_rfl) (by kernel_rfl) (by kernel_rfl) (fun _ _ _ h => h) (Or.inl ⟨by rfl, ?_⟩) (by assumption) ?_; rotate_left; (intro wS hSw; obtain ⟨x0, x1, x2, x3, x4, x5, x6, x7, x8⟩ := hSw.x.cells; (try simp only [List.getElem_toArray, List.getElem_cons_succ, List.getElem_cons_zero]); go_simp; (try with_reducible rfl)))
                try simp only [List.getElem_toArray, List.getElem_cons_succ, List.getElem_cons_zero, Act.put, List.setIfInBounds_toArray, List.set_cons_zero, List.set_cons_succ]
                (refine wpAnyH_take (i := 11) (oi := _) (v := ?_) rfl (by kernel_rfl) (by kernel_rfl) (by kernel_rfl) (fun _ _ _ h => h) (Or.inl ⟨by rfl, ?_⟩) (by assumption) ?_; rotate_left; (intro wS hSw; obtain ⟨x0, x1, x2, x3, x4, x5, x6, x7, x8⟩ := hSw.x.cells; (try simp only [List.getElem_toArray, List.getElem_cons_succ, List.getElem_cons_zero]); go_simp; (try with_reducible rfl)))
                try simp only [List.getElem_toArray, List.getElem_cons_succ, List.getElem_cons_zero, Act.put, List.setIfInBounds_toArray, List.set_cons_zero, List.set_cons_succ]
                (refine wpAnyH_take (i := 12) (oi := _) (v := ?_) rfl (by kernel_rfl) (by kernel_rfl) (by kernel_rfl) (fun _ _ _ h => h) (Or.inl ⟨by rfl, ?_⟩) (by assumption) ?_; rotate_left; (intro wS hSw; obtain ⟨x0, x1, x2, x3, x4, x5, x6, x7, x8⟩ := hSw.x.cells; (try simp only [List.getElem_toArray, List.getElem_cons_succ, List.getElem_cons_zero]); go_simp; (try with_reducible rfl)))
                try simp only [List.getElem_toArray, List.getElem_cons_succ, List.getElem_cons_zero, Act.put, List.setIfInBounds_toArray, List.set_cons_zero, List.set_cons_succ]
                (refine wpAnyH_take (i := 14) (oi := _) (v := ?_) rfl (by kernel_rfl) (by kernel_rfl) (by kernel_rfl) (fun _ _ _ h => h) (Or.inl ⟨by rfl, ?_⟩) (by assumption) ?_; rotate_left; (intro wS hSw; obtain ⟨x0, x1, x2, x3, x4, x5, x6, x7, x8⟩ := hSw.x.cells; (try simp only [List.getElem_toArray, List.getElem_cons_succ, List.getElem_cons_zero]); go_simp; (try with_reducible rfl)))
                try simp only [List.getElem_toArray, List.getElem_cons_succ, List.getElem_cons_zero, Act.put, List.setIfInBounds_toArray, List.set_cons_zero, List.set_cons_succ]
                (refine wpAnyH_take (i := 15) (oi := _) (v := ?_) rfl (by kernel_rfl) (by kernel_rfl) (by kernel_rfl) (fun _ _ _ h => h) (Or.inl ⟨by rfl, ?_⟩) (by assumption) ?_; rotate_left; (intro wS hSw; obtain ⟨x0, x1, x2, x3, x4, x5, x6, x7, x8⟩ := hSw.x.cells; (try simp only [List.getElem_toArray, List.getElem_cons_succ, List.getElem_cons_zero]); go_simp; (try with_reducible rfl)))
                try simp only [List.getElem_toArray, List.getElem_cons_succ, List.getElem_cons_zero, Act.put, List.setIfInBounds_toArray, List.set_cons_zero, List.set_cons_succ]
                (refine wpAnyH_take (i := 16) (oi := _) (v := ?_) rfl (by kernel_rfl) (by kernel_rfl) (by kernel_rfl) (fun _ _ _ h => h) (Or.inl ⟨by rfl, ?_⟩) (by assumption) ?_; rotate_left; (intro wS hSw; obtain ⟨x0, x1, x2, x3, x4, x5, x6, x7, x8⟩ := hSw.x.cells; (try simp only [List.getElem_toArray, List.getElem_cons_succ, List.getElem_cons_zero]); go_simp; (try with_reducible rfl)))
                try simp only [List.getElem_toArray, List.getElem_cons_succ, List.getElem_cons_zero, Act.put, List.setIfInBounds_toArray, List.set_cons_zero, List.set_cons_succ]
                (refine wpAnyH_ready (rs := [9]) (by kernel_rfl) (by simp) ?_; refine AllReadyH.cons (o := _) rfl (fun K hK => ?_) AllReadyH.nil; (try simp only [List.getElem_toArray, List.getElem_cons_succ, List.getElem_cons_zero]); go_simp; go_at_call 38; refine (CL.out _).mono ?_; rintro e wd ⟨rfl, hbz⟩; have hHeld := hHeld.next hbz; have HBD := hid (HBD.out.trans (hbz.mono HBD.out.size)); clear hbz; go_wp2_with fail; refine hK.out _ _ hHeld (fun hHeld => ?_); clear hK K)
                try simp only [List.getElem_toArray, List.getElem_cons_succ, List.getElem_cons_zero, Act.put, List.setIfInBounds_toArray, List.set_cons_zero, List.set_cons_succ]
                (refine wpAnyH_ready (rs := [13]) (by kernel_rfl) (by simp) ?_; refine AllReadyH.cons (o := _) rfl (fun K hK => ?_) AllReadyH.nil; (try simp only [List.getElem_toArray, List.getElem_cons_succ, List.getElem_cons_zero]); go_simp; go_at_call 38; refine (CE.out _).mono ?_; rintro e we ⟨rfl, hbz⟩; have hHeld := hHeld.next hbz; have HBD := hid (HBD.out.trans (hbz.mono HBD.out.size)); clear hbz; go_wp2_with fail; refine hK.out _ _ hHeld (fun hHeld => ?_); clear hK K)
                try simp only [List.getElem_toArray, List.getElem_cons_succ, List.getElem_cons_zero, Act.put, List.setIfInBounds_toArray, List.set_cons_zero, List.set_cons_succ]
                have HK4 := hid hHeld
                have hrow4 : we.ownsRow (w.heap.size + 1) 30 1 (.slice Ar L.length cr) L.length (L.map rowV) := row_under HR1.out HBD.out
                have HRow4 := hid hrow4
                have HC3 : Hid (L.length + 1 ≤ maxLen) := (by unfold maxLen; exact hid (by have := HLL.out; omega))
                have HC4 : Hid ((L.length + 1) * 24 ≤ 140737488355328) := hid (by have := HLL.out; omega)
                clear hrow4
                (refine wpAnyH_ready (rs := [17]) (by kernel_rfl) (by simp) ?_; refine AllReadyH.cons (o := _) rfl (fun K hK => ?_) AllReadyH.nil; (try simp only [List.getElem_toArray, List.getElem_cons_succ, List.getElem_cons_zero]); go_simp; go_wp2_with fail; refine hK.out _ _ (hHeld.next ((Below.refl _ _).alloc (Nat.le_refl _) _)) (fun hHeld => ?_); clear hK K)
                try simp only [List.getElem_toArray, List.getElem_cons_succ, List.getElem_cons_zero, Act.put, List.setIfInBounds_toArray, List.set_cons_zero, List.set_cons_succ]
                (refine wpAnyH_ready (rs := [18]) (by kernel_rfl) (by simp) ?_; refine AllReadyH.cons (o := _) rfl (fun K hK => ?_) AllReadyH.nil; (try simp only [List.getElem_toArray, List.getElem_cons_succ, List.getElem_cons_zero]); go_simp; go_wp2_with fail; refine hK.out _ _ (hHeld.next ((Below.refl _ _).alloc (Nat.le_refl _) _)) (fun hHeld => ?_); clear hK K)
                try simp only [List.getElem_toArray, List.getElem_cons_succ, List.getElem_cons_zero, Act.put, List.setIfInBounds_toArray, List.set_cons_zero, List.set_cons_succ]
                (refine wpAnyH_ready (rs := [19]) (by kernel_rfl) (by simp) ?_; refine AllReadyH.cons (o := _) rfl (fun K hK => ?_) AllReadyH.nil; (try simp only [List.getElem_toArray, List.getElem_cons_succ, List.getElem_cons_zero]); refine step_append_lies (a := { tmps := _, defers := _ }) _ (by rfl) _ _ _ (by rfl) (w.heap.size + 1) 30 iS (.slice none 0 0) 1 24 Tryz.underlying25 hiS hzS hsS hbS rfl (by decide) (.slice Ar L.length cr) L.length (L.map rowV) (by rfl) (World.ownsRow.alloc (World.ownsRow.alloc HRow4.out _) _) ⟨we.heap.size + 1, 0, none⟩ 1 1 [.slice (some ⟨we.heap.size, 0, none⟩) 9 9] (by rfl) (by rfl) (by have := one_new (we.alloc (.cells #[.string X0, .string X1, .string X2, .string X3, .string X4, .string X5, .string X6, .string X7, .string X8] 9)) (.slice (some ⟨we.heap.size, 0, none⟩) 9 9) 30; simpa using this) (one_slice _ _ _) (by decide) HC3.out HC4.out (by have := HK4.out.g.x.lt; simp; omega) (we.heap.size + 1 + 1) (by simp) ?_; intro g7 cap7 w7 hown7 hgrow7 hat7 hlt7; have hHeld := hHeld.grown hgrow7 (fun k hk => HROWB.out k hk); have HOWN := hid hown7; have HGR := hid hgrow7; have HAT := hid hat7; clear hown7 hgrow7 hat7; refine hK.out _ _ hHeld (fun hHeld => ?_); clear hK K)
                try simp only [Act.put, List.setIfInBounds_toArray, List.set_cons_zero, List.set_cons_succ]
                (refine wpAnyH_take (i := 20) (oi := _) (v := ?_) rfl (by kernel_rfl) (by kernel_rfl) (by kernel_rfl) (fun _ _ _ h => h) (Or.inl ⟨by rfl, ?_⟩) (by assumption) ?_; rotate_left; (intro wS hSw; obtain ⟨x0, x1, x2, x3, x4, x5, x6, x7, x8⟩ := hSw.x.cells; (try simp only [List.getElem_toArray, List.getElem_cons_succ, List.getElem_cons_zero]); go_simp; (try with_reducible rfl)))
                try simp only [List.getElem_toArray, List.getElem_cons_succ, List.getElem_cons_zero, Act.put, List.setIfInBounds_toArray, List.set_cons_zero, List.set_cons_succ]
                refine wpAnyH_done (by kernel_rfl) ?_ _
                have hin : S3.StrRow (we.alloc (.cells #[.string X0, .string X1, .string X2, .string X3, .string X4, .string X5, .string X6, .string X7, .string X8] 9)) we.heap.size (.slice (some ⟨we.heap.size, 0, none⟩) RW.length 9) RW := by
                  unfold S3.StrRow
                  rw [HRV.out, HR5.out]
                  exact World.ownsRow_lit we #[.string X0, .string X1, .string X2, .string X3, .string X4, .string X5, .string X6, .string X7, .string X8] 9 (Nat.le_refl _) (by decide) rfl
                have hown7 := HOWN.out
                have hsn := RowsRow.snoc (c := 9) HROW0.out (by have := HK4.out.g.x.lt; omega) (HB10.out.trans (HBD.out.mono HB10.out.size)) ((Below.refl we.heap.size we).alloc (Nat.le_refl _) _) hin ((Below.refl _ (we.alloc (.cells #[.string X0, .string X1, .string X2, .string X3, .string X4, .string X5, .string X6, .string X7, .string X8] 9))).alloc (Nat.le_refl _) _) (by rw [HR5.out]; exact hown7) HGR.out (by
                  rcases HAT.out with h | h
                  · exact .inl h.symm
                  · exact .inr (by rw [h]; simp [Value.ownBlock]))
                have HSN := hid hsn
                have HK7 := hid hHeld.g
                have HL2 : Hid ((L ++ [((RW, some ⟨we.heap.size, 0, none⟩, 9) : RowA)]).map (·.1) = (l.take (i + 1)).map (rowK d s b m n)) := hid (by rw [HST.out, List.map_append]; rfl)
                clear hin hown7 hsn hHeld
                go_wp2
                go_roundw
                case rel => exact ⟨i + 1, L ++ [((RW, some ⟨we.heap.size, 0, none⟩, 9) : RowA)], by go_num, by omega, HL2, HSN, HK7⟩
                case measure => simp [RowKit.intOf]; omega
      · have hltz : ¬ (i : Int) < (l.length : Int) := by omega
        have hL2 : Hid (L.map (·.1) = l.map (rowK d s b m n)) := hid (by rw [hL.out, List.take_of_length_le (by omega)])
        go_wp2
        go_ret2
        exact ⟨⟨_, L, hL2.out, rfl, hrow.out.low (by omega)⟩, hKK.out.b⟩
  · have hR1 : (R != 0) = true := by simpa using hR0
    have hR2 : (R == 0) = false := by simpa using hR0
    rw [if_pos hR0]
    clear hR
    go_enter Tryz.func9, Tryz.ntmps9
    go_wp2_with fail
    refine (CV.out _ HK.out.b).mono ?_
    rintro e w1 ⟨rfl, hb⟩
    have HK1 := hid (HK.out.next hb)
    clear hb HK CV
    go_wp2
    go_ret2
    exact ⟨⟨_, [], rfl, rfl, RowsRow.nil _ _⟩, HK1.out.b⟩
end Go.Proofs.YtigdcgklpapfbaaGreatDoor.S10

