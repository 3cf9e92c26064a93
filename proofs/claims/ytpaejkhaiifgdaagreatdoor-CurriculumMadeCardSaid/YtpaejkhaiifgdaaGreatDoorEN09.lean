/-
  The pairs of a curriculum by the specification: Pairs. Conditions: the classes and the curriculum lie in memory; at most 40 classes.
  That the specification finds equal lists of curricula equal. Conditions: the lists lie in memory.
  Small general facts and definitions, taken out of R7SF. No program.
  The walk of CurriculumExact. Conditions: the curricula, records and classes lie in memory; the records' texts have at most 2097152 bytes; the variables hold what their text lays.
-/
import Derived.Test.YtpaejkhaiifgdaaGreatDoorGN01
import Derived.Test.YtpaejkhaiifgdaaGreatDoorGN02
import Derived.Test.YtpaejkhaiifgdaaGreatDoorGN03
import Derived.Test.YtpaejkhaiifgdaaGreatDoorGN04
import Derived.Test.YtpaejkhaiifgdaaGreatDoorGN05
import Derived.Test.YtpaejkhaiifgdaaGreatDoorGN06
import Derived.Test.YtpaejkhaiifgdaaGreatDoorGN07
import Derived.Test.YtpaejkhaiifgdaaGreatDoorGN08
import Derived.Test.YtpaejkhaiifgdaaGreatDoorGN09
import Derived.Test.YtpaejkhaiifgdaaGreatDoorGN10
import Derived.Test.YtpaejkhaiifgdaaGreatDoorGN11
import Derived.Test.YtpaejkhaiifgdaaGreatDoorGN12
import Derived.Test.YtpaejkhaiifgdaaGreatDoorGN13
import Derived.Test.YtpaejkhaiifgdaaGreatDoorGN14
import Derived.Test.YtpaejkhaiifgdaaGreatDoorGN15
import Derived.Test.YtpaejkhaiifgdaaGreatDoorGN16
import Derived.Test.YtpaejkhaiifgdaaGreatDoorGN17
import Derived.Test.YtpaejkhaiifgdaaGreatDoorGN18
import Derived.Test.YtpaejkhaiifgdaaGreatDoorEN01
import Derived.Test.YtpaejkhaiifgdaaGreatDoorEN02
import Derived.Test.YtpaejkhaiifgdaaGreatDoorEN03
import Derived.Test.YtpaejkhaiifgdaaGreatDoorEN04
import Derived.Test.YtpaejkhaiifgdaaGreatDoorEN05
import Derived.Test.YtpaejkhaiifgdaaGreatDoorEN06
import Derived.Test.YtpaejkhaiifgdaaGreatDoorEN07
import Derived.Test.YtpaejkhaiifgdaaGreatDoorEN08
import Derived.Test.YtpaejkhaiifgdaaGreatDoorProg
import Derived.WalkKit
import Derived.WalkSpells
import Derived.WalkLawsBesides
import Derived.Lib.Hide
import Derived.Deep.QuietTactic
import Derived.BigQuiet
import Derived.Laws.Rows
import Derived.OwnWalk
import Derived.Lib.BufferWrite
import Derived.Lib.UnsafeStr
import Derived.Laws.IdiomStrings
import Derived.Laws.BytesArg
import Derived.Laws.BytesString
import Derived.Laws.OwnMore
import Derived.Lib.IndexLaws
import Derived.Lib.ItoaNum
import Derived.Lib.Atoi
import Derived.Lib.Bytealg
import Derived.Deep.RegionLaw
import Derived.Deep.RegionHeld3
import Derived.Handy
import Derived.RegionTactic
import Derived.Deep.DeepCutAuto
import Derived.Deep.CutBlock
import Derived.IntWalk
import Derived.Shelf.Abstract
import Derived.Laws.AppendOwn
import Derived.Maps.OwnSet
import Derived.Maps.Range
import Derived.Laws.Tables
import Derived.Maps.AppendAt
import Derived.Lib.QuietBelow
import Derived.RangeFuncNested
import Derived.RangeFuncBound
import Derived.RangeFuncCalls
import Derived.RangeFuncLeaves
import Derived.Shelf.RegionOpen
import Derived.OwnWalkIn
import Derived.Lib.SlTrimSet
import Derived.Shelf.Strings.Builder1
import Derived.Shelf.Strings.Builder2
import Derived.Shelf.Strings.OnBuilder
import Derived.Shelf.Strings.Trim
import Derived.Shelf.Small.Utf8
import Derived.Shelf.Small.Strs
import Derived.Shelf.Strings.BuilderF
import Derived.Shelf.Strings.BuilderK
import Derived.Shelf.Strings.Builder2Cap
import Derived.Shelf.Strconv.Atoi
import Derived.Shelf.Strconv.Itoa0
import Derived.Shelf.Strconv.Itoa1
import Derived.Shelf.LaysM
import Derived.Shelf.Strconv.Itoa2
import Derived.Shelf.Strconv.Itoa3
import Derived.Shelf.Strconv.AtoiErrFast
import Derived.Shelf.Strconv.ParseIntEmpty
import Derived.Shelf.Strconv.AtoiFail
import Derived.Shelf.Strconv.Clone
import Derived.Shelf.Strconv.SyntaxError
import Derived.Shelf.LaysC
import Derived.Shelf.Strconv.ToError
import Derived.Shelf.Strconv.AtoiErr
import Derived.Shelf.Strings.Search1
import Derived.Shelf.Strings.Search2
import Derived.Shelf.Strings.Search3
import Derived.Shelf.Strings.Cut
import Derived.Shelf.Strings.Shaped
import Derived.Shelf.Strings.Prefix
import Derived.Shelf.Strings.Runes
import Derived.Shelf.Strings.AsciiSet
import Derived.Shelf.Bits.Mul64
import Derived.Shelf.Strings.Repeat
import Derived.Shelf.Unicode.DecodeSlow
import Derived.Shelf.Strings.BuilderCap
import Derived.Shelf.Slices.Turned
import Derived.Shelf.Strings.SlTrimAscii
import Derived.Lib.AtoiErrMem
import Derived.Laws.ResultCell
import Derived.Lib.Repeat
import Derived.Lib.SlicesS
import Derived.TacticsInMore
import Derived.LoopNIn
import Derived.LoopIn
import Derived.StillTailTactics
import Derived.RangeFuncBox
import Derived.Lib.Join
import Derived.Laws.Concat
import Derived.Stop.BytesEq
import Derived.Deep.AppendLies
set_option linter.unusedVariables false
namespace Go.Proofs.YtpaejkhaiifgdaaGreatDoor.S11
open Go Go.Proofs Go.RowKit Go.Lib Go.Proofs.YtpaejkhaiifgdaaGreatDoor Go.Proofs.YtpaejkhaiifgdaaGreatDoor.S10 Go.Sort

/-- What stands while pairs are gathered by the specification. -/
structure KR (w0 : World) (v0 v1 : Value) (L : List StartD) (v : Value) (w : World) : Prop where
  x : Box2 w w0.heap.size v0 v1
  r : PairRow w (w0.heap.size + 1) v L
  b : Below w0.heap.size w0 w
theorem KR.next {w0 w w' : World} {v0 v1 : Value} {L : List StartD} {v : Value} (h : KR w0 v0 v1 L v w) (k : Below w.heap.size w w') : KR w0 v0 v1 L v w' :=
  ⟨h.x.next k, row_under h.r k, h.b.trans (k.mono h.b.size)⟩
theorem KR.app {w0 w w' : World} {v0 v1 : Value} {L L' : List StartD} {v v' : Value} (h : KR w0 v0 v1 L v w) (hg : w.grownBy w' v.ownBlock) (hr : PairRow w' (w0.heap.size + 1) v' L') : KR w0 v0 v1 L' v' w' :=
  ⟨h.x.kept (hg.block _ h.x.lt (fun e => by have := (World.ownsRow.lt h.r _ e.symm).1; omega)), hr, h.b.grown hg h.b.size (fun k hk => by have := (World.ownsRow.lt h.r k hk).1; omega)⟩
def restP (p : Nat → Bool) (i k n : Nat) : List StartD := if p i = true then ((List.range' k (n - k)).filter p).map (fun k : Nat => ((i : Int), (k : Int))) else []
theorem restP_skip {p : Nat → Bool} {i k n : Nat} (hk : k < n) (h : (p i && p k) = false) : restP p i k n = restP p i (k + 1) n := by
  unfold restP
  rw [range'_cons hk]
  cases hi : p i with
  | false => rfl
  | true =>
    have hk0 : p k = false := by simpa [hi] using h
    rw [if_pos rfl, if_pos rfl, List.filter_cons_of_neg (by simp [hk0])]
theorem restP_take {p : Nat → Bool} {i k n : Nat} (hk : k < n) (h : (p i && p k) = true) : restP p i k n = ((i : Int), (k : Int)) :: restP p i (k + 1) n := by
  unfold restP
  rw [range'_cons hk]
  obtain ⟨h1, h2⟩ := (Bool.and_eq_true _ _).mp h
  rw [if_pos h1, if_pos h1, List.filter_cons_of_pos h2, List.map_cons]
theorem restP_end {p : Nat → Bool} {i k n : Nat} (hk : n ≤ k) : restP p i k n = [] := by
  unfold restP
  rw [range'_nil hk]
  split <;> rfl
set_option maxHeartbeats 16000000 in
set_option maxRecDepth 100000 in
theorem rpairs_any (x : CurrD) (q : CurrA) (A : Option Addr) (l : List ClassD) (c : Nat) (hl : l.length ≤ 40) (w : World) (hx : CurrIn w (fun k => k < w.heap.size) x q) (h : ClassesIn w (fun k => k < w.heap.size) A l) :
    Calls Tryz.prog 14 #[currV x q, .slice A l.length c] w (PairOut (pairsM x.2 l) w) := by
  obtain ⟨iP, hiP, hzP, hsP, hbP⟩ := info_parts infoPair
  have hP := pairsM_len x.2 l hl
  have hPr := pairsM_ref x.2 l
  obtain ⟨code, cs⟩ := x
  obtain ⟨A2, c2⟩ := q
  obtain ⟨ht, ht1, ht2⟩ := hx
  unfold currV PairOut
  dsimp only at ht ht1 ht2 hP hPr ⊢
  have hx0 := Box2.new w (.string (ba code)) (.slice A2 cs.length c2)
  have hb0 := (Below.refl w.heap.size w).alloc (Nat.le_refl _) (.cells #[.string (ba code), .slice A2 cs.length c2] 41)
  have CHA := hid (fun (W : World) (s : ByteArray) (hb : Below w.heap.size w W) => rhas_any A2 cs c2 s _ W (ht.below hb) (Nat.le_trans ht1 ht2))
  have CSI := hid (fun (W : World) (i : Nat) (hi : i < l.length) (hb : Below w.heap.size w W) => rsingle_any A l c i hi hl W ((h.below hb).mono (fun k hk => Nat.lt_of_lt_of_le hk hb.size)))
  have HH := hid (fun (W : World) (hb : Below w.heap.size w W) => h.below hb)
  obtain ⟨P, hPP⟩ : ∃ P, pairsM cs l = P := ⟨_, rfl⟩
  rw [hPP] at hP hPr ⊢
  obtain ⟨X1, hX1⟩ : ∃ X, ba code = X := ⟨_, rfl⟩
  obtain ⟨CN, hCN⟩ : ∃ F, cs.length = F := ⟨_, rfl⟩
  rw [hX1, hCN] at hx0 hb0 ⊢
  rw [hCN] at CHA
  obtain ⟨N, hN⟩ : ∃ F, l.length = F := ⟨_, rfl⟩
  have HN := hid hN
  have HP0 : Hid ([] ++ refOf (attB cs l) (List.range' 0 (N - 0)) = P) := hid (by rw [← hN, List.nil_append]; exact hPr.symm)
  rw [hN] at hl CSI ⊢
  have hk0 : KR w (.string X1) (.slice A2 CN c2) [] (.slice none 0 0) (w.alloc (.cells #[.string X1, .slice A2 CN c2] 41)) := ⟨hx0, World.ownsRow_nil _ _ _ _, hb0⟩
  have HK0 := hid hk0
  clear hx0 hb0 ht h hX1 hCN hPP hPr hN hk0
  go_enter Tryz.func14, Tryz.ntmps14
  go_wp2
  generalize w.alloc (.cells #[.string X1, .slice A2 CN c2] 41) = w1 at HK0 ⊢
  go_loopw [5, 6] (fun v iv wr => ∃ (i m : Nat) (L : List StartD) (Ar : Option Addr) (cr : Nat), v = .slice Ar m cr ∧ iv = .int .i64 (i : Int) ∧ i ≤ N ∧ Hid (L.length = m) ∧ Hid (L ++ refOf (attB cs l) (List.range' i (N - i)) = P) ∧ Hid (KR w (.string X1) (.slice A2 CN c2) L (.slice Ar m cr) wr)) (fun _ iv _ => N - (RowKit.intOf iv).toNat)
  case atStart => exact ⟨0, 0, [], none, 0, rfl, rfl, Nat.zero_le _, hid rfl, HP0, HK0⟩
  case round =>
    clear HP0 HK0
    obtain ⟨i, m, L, Ar, cr, rfl, rfl, hi, hLm, hLP, hK⟩ := hrel
    by_cases hlt : i < N
    · have hltz : (i : Int) < (N : Int) := by omega
      have dk : decide (N ≤ i) = false := decide_eq_false (by omega)
      have qi : IntKind.i64.wrap ((i : Int) + 1) = (i : Int) + 1 := IntWalk.i64_in _ (by omega)
      have hil : i < l.length := by rw [HN.out]; exact hlt
      have HIN : Hid (L ++ restP (attB cs l) i (i + 1) N ++ refOf (attB cs l) (List.range' (i + 1) (N - (i + 1))) = P) := hid (by
        rw [← hLP.out, range'_cons hlt, refOf, List.append_assoc]
        rfl)
      have hat := attB_at (cs := cs) hil
      obtain ⟨fb, fo, q, rfl, hfb, _, hc⟩ := (HH.out w (Below.refl _ _)).at_ hil
      have HCI := hid (fun (W : World) (hb : Below w.heap.size w W) => (hb.cell (p := ⟨fb, fo + i * 9 + 1, none⟩) hfb).trans hc.c1)
      obtain ⟨y, hy⟩ : ∃ y, (l[i]).course = y := ⟨_, rfl⟩
      rw [hy] at hat HCI
      have CH1 := hid (fun (W : World) (hb : Below w.heap.size w W) => CHA.out W (ba y) hb)
      rw [lst_ba] at CH1
      have CS1 := hid (fun (W : World) (hb : Below w.heap.size w W) => CSI.out W i hlt hb)
      obtain ⟨U1, hU1⟩ : ∃ U, decide (y ∈ cs) = U := ⟨_, rfl⟩
      obtain ⟨S1, hS1⟩ : ∃ U, singleB l i = U := ⟨_, rfl⟩
      rw [hU1, hS1] at hat
      rw [hU1] at CH1
      rw [hS1] at CS1
      have HAT := hid hat
      obtain ⟨Y1, hY1⟩ : ∃ Y, ba y = Y := ⟨_, rfl⟩
      rw [hY1] at CH1 HCI
      have hi1 : i + 1 ≤ N := by omega
      clear hc hy hU1 hS1 hat hY1 hLP
      have HL0 := hLm
      have HK1 := hK
      clear hLm hK
      go_wp2
      go_loopw [5, 7] (fun v kv wr2 => ∃ (k m2 : Nat) (L2 : List StartD) (Ar2 : Option Addr) (cr2 : Nat), v = .slice Ar2 m2 cr2 ∧ kv = .int .i64 (k : Int) ∧ i < k ∧ k ≤ N ∧ Hid (L2.length = m2) ∧ Hid (L2 ++ restP (attB cs l) i k N ++ refOf (attB cs l) (List.range' (i + 1) (N - (i + 1))) = P) ∧ Hid (KR w (.string X1) (.slice A2 CN c2) L2 (.slice Ar2 m2 cr2) wr2)) (fun _ kv _ => N - (RowKit.intOf kv).toNat)
      case atStart => exact ⟨i + 1, m, L, Ar, cr, rfl, by go_num, by omega, hi1, HL0, HIN, HK1⟩
      case round =>
        clear HIN HL0 HK1
        obtain ⟨k, m2, L2, Ar2, cr2, rfl, rfl, hik, hk, hLm, hLP, hK⟩ := hrel
        by_cases hkt : k < N
        · have hkz : (k : Int) < (N : Int) := by omega
          have dk2 : decide (N ≤ k) = false := decide_eq_false (by omega)
          have qk : IntKind.i64.wrap ((k : Int) + 1) = (k : Int) + 1 := IntWalk.i64_in _ (by omega)
          have hkl : k < l.length := by rw [HN.out]; exact hkt
          have hat2 := attB_at (cs := cs) hkl
          obtain ⟨fb', fo', q', hA, _, _, hc⟩ := (HH.out wr hK.out.b).at_ hkl
          injection hA with hA; injection hA with hA1 hA2
          subst hA1 hA2
          have z2 := hc.c1
          have z1 := HCI.out wr hK.out.b
          obtain ⟨y', hy'⟩ : ∃ y, (l[k]).course = y := ⟨_, rfl⟩
          rw [hy'] at hat2 z2
          obtain ⟨U2, hU2⟩ : ∃ U, decide (y' ∈ cs) = U := ⟨_, rfl⟩
          obtain ⟨S2, hS2⟩ : ∃ U, singleB l k = U := ⟨_, rfl⟩
          obtain ⟨Y2, hY2⟩ : ∃ Y, ba y' = Y := ⟨_, rfl⟩
          rw [hY2] at z2
          have HB := hK.out.b
          obtain ⟨x0, x1⟩ := hK.out.x.cells
          have cH1 : ∀ d os, Calls Tryz.prog 41 #[.slice A2 CN c2, .string Y1] (grow (redrawn wr d) os) fun e w'' => e = .returned (.bool U1) ∧ ∃ p : Regrown, w'' = grow (redrawn wr p.d) p.os := fun d os => Calls.regrown_of ((CH1.out _ (HB.trans ((below_regrown wr d os).mono HB.size))).mono fun _ _ h => ⟨h.1, by rw [← h.2]; exact Below.refl _ _⟩)
          have cH2 : ∀ d os, Calls Tryz.prog 41 #[.slice A2 CN c2, .string Y2] (grow (redrawn wr d) os) fun e w'' => e = .returned (.bool U2) ∧ ∃ p : Regrown, w'' = grow (redrawn wr p.d) p.os := fun d os => Calls.regrown_of (by
            have := CHA.out _ (ba y') (HB.trans ((below_regrown wr d os).mono HB.size))
            rw [lst_ba, hU2, hY2] at this
            exact this.mono fun _ _ h => ⟨h.1, by rw [← h.2]; exact Below.refl _ _⟩)
          have cS1 : ∀ d os, Calls Tryz.prog 31 #[.slice (some ⟨fb, fo, none⟩) N c, .int .i64 (i : Int)] (grow (redrawn wr d) os) fun e w'' => e = .returned (.bool S1) ∧ ∃ p : Regrown, w'' = grow (redrawn wr p.d) p.os := fun d os => Calls.regrown_of (CS1.out _ (HB.trans ((below_regrown wr d os).mono HB.size)))
          have cS2 : ∀ d os, Calls Tryz.prog 31 #[.slice (some ⟨fb, fo, none⟩) N c, .int .i64 (k : Int)] (grow (redrawn wr d) os) fun e w'' => e = .returned (.bool S2) ∧ ∃ p : Regrown, w'' = grow (redrawn wr p.d) p.os := fun d os => Calls.regrown_of (by
            have := CSI.out _ k hkt (HB.trans ((below_regrown wr d os).mono HB.size))
            rw [hS2] at this
            exact this)
          rw [hU2, hS2] at hat2
          have HBW := hid HB
          have k1 := cell_regrown z1
          have k2 := cell_regrown z2
          have k3 := cell_regrown x0
          have k4 := cell_regrown x1
          have HAK : Hid ((attB cs l i && attB cs l k) = ((U1 && S1) && (U2 && S2))) := hid (by rw [HAT.out, hat2])
          clear hc hy' hU2 hS2 hY2 hat2 z1 z2 x0 x1 HB
          go_upto_region 8 with fail
          go_cut [49] (fun v wx => v = .bool ((U1 && S1) && (U2 && S2)) ∧ Hid (KR w (.string X1) (.slice A2 CN c2) L2 (.slice Ar2 m2 cr2) wx))
          case first =>
            cases U1 with
            | false =>
              refine wp_region_quiet_below (by kernel_rfl) (by kernel_rfl) ?_
              (repeat (go_big_quiet_step (first | with_reducible exact cH1 _ _ | with_reducible exact cH2 _ _ | with_reducible exact cS1 _ _ | with_reducible exact cS2 _ _)))
              refine wpQuiet_nil ?_
              intro _ hw'
              obtain ⟨⟨dq, osq⟩, hw''⟩ := hw'
              subst hw''
              have HK3 := hid (hK.out.next (below_regrown wr dq osq))
              go_wp2_with fail
              go_meet
              exact ⟨by first | rfl | (cases S2 <;> rfl), HK3⟩
            | true =>
              cases U2 with
              | false =>
                cases S1 with
                | false =>
                  refine wp_region_quiet_below (by kernel_rfl) (by kernel_rfl) ?_
                  (repeat (go_big_quiet_step (first | with_reducible exact cH1 _ _ | with_reducible exact cH2 _ _ | with_reducible exact cS1 _ _ | with_reducible exact cS2 _ _)))
                  refine wpQuiet_nil ?_
                  intro _ hw'
                  obtain ⟨⟨dq, osq⟩, hw''⟩ := hw'
                  subst hw''
                  have HK3 := hid (hK.out.next (below_regrown wr dq osq))
                  go_wp2_with fail
                  go_meet
                  exact ⟨by first | rfl | (cases S2 <;> rfl), HK3⟩
                | true =>
                  refine wp_region_quiet_below (by kernel_rfl) (by kernel_rfl) ?_
                  (repeat (go_big_quiet_step (first | with_reducible exact cH1 _ _ | with_reducible exact cH2 _ _ | with_reducible exact cS1 _ _ | with_reducible exact cS2 _ _)))
                  refine wpQuiet_nil ?_
                  intro _ hw'
                  obtain ⟨⟨dq, osq⟩, hw''⟩ := hw'
                  subst hw''
                  have HK3 := hid (hK.out.next (below_regrown wr dq osq))
                  go_wp2_with fail
                  go_meet
                  exact ⟨by first | rfl | (cases S2 <;> rfl), HK3⟩
              | true =>
                cases S1 with
                | false =>
                  refine wp_region_quiet_below (by kernel_rfl) (by kernel_rfl) ?_
                  (repeat (go_big_quiet_step (first | with_reducible exact cH1 _ _ | with_reducible exact cH2 _ _ | with_reducible exact cS1 _ _ | with_reducible exact cS2 _ _)))
                  refine wpQuiet_nil ?_
                  intro _ hw'
                  obtain ⟨⟨dq, osq⟩, hw''⟩ := hw'
                  subst hw''
                  have HK3 := hid (hK.out.next (below_regrown wr dq osq))
                  go_wp2_with fail
                  go_meet
                  exact ⟨by first | rfl | (cases S2 <;> rfl), HK3⟩
                | true =>
                  refine wp_region_quiet_below (by kernel_rfl) (by kernel_rfl) ?_
                  (repeat (go_big_quiet_step (first | with_reducible exact cH1 _ _ | with_reducible exact cH2 _ _ | with_reducible exact cS1 _ _ | with_reducible exact cS2 _ _)))
                  refine wpQuiet_nil ?_
                  intro _ hw'
                  obtain ⟨⟨dq, osq⟩, hw''⟩ := hw'
                  subst hw''
                  have HK3 := hid (hK.out.next (below_regrown wr dq osq))
                  go_wp2_with fail
                  go_meet
                  exact ⟨by first | rfl | (cases S2 <;> rfl), HK3⟩
          case rest =>
            obtain ⟨rfl, hKc⟩ := hcut
            clear k1 k2 k3 k4 cH1 cH2 cS1 cS2 hK
            obtain ⟨D, hD⟩ : ∃ D, ((U1 && S1) && (U2 && S2)) = D := ⟨_, rfl⟩
            rw [hD] at HAK ⊢
            clear hD
            cases D with
            | false =>
              have HLP2 : Hid (L2 ++ restP (attB cs l) i (k + 1) N ++ refOf (attB cs l) (List.range' (i + 1) (N - (i + 1))) = P) := hid (by rw [← restP_skip hkt HAK.out]; exact hLP.out)
              clear hLP
              go_wp2
              go_roundw
              case rel => exact ⟨k + 1, m2, L2, Ar2, cr2, rfl, by go_num, by omega, by omega, hLm, HLP2, hKc⟩
              case measure => simp [RowKit.intOf]; omega
            | true =>
              have hLP3 : (L2 ++ [((i : Int), (k : Int))]) ++ restP (attB cs l) i (k + 1) N ++ refOf (attB cs l) (List.range' (i + 1) (N - (i + 1))) = P := by
                have := hLP.out
                rw [restP_take hkt HAK.out, List.append_cons] at this
                exact this
              have hm2 : m2 + 1 ≤ 1600 := by
                have := congrArg List.length hLP3
                simp only [List.length_append, List.length_singleton] at this
                have h2 := hLm.out
                omega
              have HLP3 := hid hLP3
              have hrow := hKc.out.r
              unfold PairRow at hrow
              rw [hLm.out] at hrow
              have HROW := hid hrow
              have HC3 : Hid (m2 + 1 ≤ maxLen) := by unfold maxLen; exact hid (by omega)
              have HC4 : Hid ((m2 + 1) * 16 ≤ 140737488355328) := hid (by omega)
              have HC5 : Hid (∀ o : Obj, w.heap.size + 1 ≤ (wc.alloc o).heap.size) := hid (fun o => by have := hKc.out.x.lt; simp; omega)
              have HPC := hid (pair_cells wc i k 61)
              clear hLP3 hrow hm2 hLP
              go_wp2_with (at_builtin; refine wpList_append_own_at _ rfl _ _ 37 rfl (w.heap.size + 1) 61 iP (.agg #[.int .i64 0, .int .i64 0]) 2 16 Tryz.underlying37 hiP hzP hsP hbP rfl (by decide) (.slice Ar2 m2 cr2) m2 (startVals L2) rfl (World.ownsRow.alloc HROW.out _) ⟨wc.heap.size, 0, none⟩ 1 1 (startVs ((i : Int), (k : Int))) rfl rfl HPC.out (pair_one _ _) HC3.out HC4.out (HC5.out _) ?_)
              intro v' w4 hown' hgrow _ hat
              have hg' := grownBy_of_alloc hgrow
              obtain ⟨A6, c6, rfl⟩ := S3.row_slice hown'
              have hrow6 : PairRow w4 (w.heap.size + 1) (.slice A6 (m2 + 1) c6) (L2 ++ [((i : Int), (k : Int))]) := by
                unfold PairRow
                rw [List.length_append, hLm.out, startVals_app, List.length_singleton]
                simpa [startVals] using hown'
              have HK4 := hid (hKc.out.app hg' hrow6)
              have HN2 : Hid ((L2 ++ [((i : Int), (k : Int))]).length = m2 + 1) := hid (by rw [List.length_append, hLm.out]; rfl)
              clear hown' hgrow hg' hrow6 HC3 HC4 HC5 hat HPC
              go_wp2
              go_roundw
              case rel => exact ⟨k + 1, m2 + 1, _, A6, c6, rfl, by go_num, by omega, by omega, HN2, HLP3, HK4⟩
              case measure => simp [RowKit.intOf]; omega
        · have hkz : ¬ (k : Int) < (N : Int) := by omega
          have HLP2 : Hid (L2 ++ refOf (attB cs l) (List.range' (i + 1) (N - (i + 1))) = P) := hid (by have := hLP.out; rw [restP_end (by omega), List.append_nil] at this; exact this)
          clear hLP
          go_wp2
          go_roundw
          case rel => exact ⟨i + 1, m2, L2, Ar2, cr2, rfl, by go_num, by omega, hLm, HLP2, hK⟩
          case measure => simp [RowKit.intOf]; omega
    · have hltz : ¬ (i : Int) < (N : Int) := by omega
      have hLe : L = P := by
        have := hLP.out
        rw [range'_nil (by omega)] at this
        simpa [refOf] using this
      have HR : Hid (PairOut P w (.returned (.slice Ar m cr)) wr) := hid ⟨⟨_, rfl, by have := hK.out.r; rw [hLe] at this; exact rowLow this (by omega)⟩, hK.out.b⟩
      clear hLe hLP hK hLm
      go_wp2
      go_ret
      exact HR.out
end Go.Proofs.YtpaejkhaiifgdaaGreatDoor.S11

set_option linter.unusedVariables false
namespace Go.Proofs.YtpaejkhaiifgdaaGreatDoor.S11
open Go Go.Proofs Go.RowKit Go.Lib Go.Proofs.YtpaejkhaiifgdaaGreatDoor

set_option maxHeartbeats 8000000 in
set_option maxRecDepth 100000 in
theorem usame_any (A A' : Option Addr) (l : List CurrD) (c c' : Nat) (P P' : Nat → Prop) (w : World) (h : CurrsIn w P A l) (h' : CurrsIn w P' A' l) (hl : l.length ≤ 9223372036854775807) :
    Calls Tryz.prog 18 #[.slice A l.length c, .slice A' l.length c'] w fun e w' => e = .returned (.bool true) ∧ ∃ q, w' = w.drewN q := by
  have H := hid h
  have H' := hid h'
  clear h h'
  go_enter Tryz.func18, Tryz.ntmps18
  go_wp2
  go_loopw [5] (fun i wr => ∃ k : Nat, i = .int .i64 (k : Int) ∧ k ≤ l.length ∧ Hid (∃ q, wr = w.drewN q)) (fun i _ => l.length - (RowKit.intOf i).toNat)
  case atStart => exact ⟨0, rfl, Nat.zero_le _, hid ⟨0, rfl⟩⟩
  case round =>
    obtain ⟨k, rfl, hk, HQ⟩ := hrel
    by_cases hlt : k < l.length
    · have hltz : (k : Int) < (l.length : Int) := by omega
      have hst : ∀ j, wr.heap[j]? = w.heap[j]? := fun j => by obtain ⟨q, hq⟩ := HQ.out; rw [hq, S3.drewN_heap]
      obtain ⟨b1, o1, ⟨fa1, fc1⟩, rfl, _, hr1, a0, a1⟩ := (H.out.kept (w' := wr) (fun b _ => hst b)).at_ hlt
      obtain ⟨b2, o2, ⟨fa2, fc2⟩, rfl, _, hr2, e0, e1⟩ := (H'.out.kept (w' := wr) (fun b _ => hst b)).at_ hlt
      have cS := fun q => S3.sameStrings_any fa1 fa2 l[k].2 l[k].2 fc1 fc2 _ _ (wr.drewN q) (hr1.t.kept (fun b _ => by rw [S3.drewN_heap])) (hr2.t.kept (fun b _ => by rw [S3.drewN_heap])) (Nat.le_trans hr1.t1 hr1.t2)
      simp only [decide_true] at cS
      obtain ⟨⟨cd, fs⟩, ht⟩ : ∃ t, l[k] = t := ⟨_, rfl⟩
      rw [ht] at a0 a1 e0 e1
      simp only [ht] at cS
      dsimp only at a0 a1 e0 e1
      obtain ⟨F, hF⟩ : ∃ F, fs.length = F := ⟨_, rfl⟩
      rw [hF] at a1 e1
      simp only [hF] at cS
      obtain ⟨C, hC⟩ : ∃ C, ba cd = C := ⟨_, rfl⟩
      rw [hC] at a0 e0
      have d1 : decide (l.length ≤ k) = false := decide_eq_false (by omega)
      have CS := hid cS
      clear ht hr1 hr2 hF hC cS hst
      go_wp2
      go_quiet ((go_at_call 46; with_reducible refine Calls.quiet_of (CS.out _)))
      go_wp2
      go_roundw
      case rel => exact ⟨k + 1, by go_num, by omega, hid (by obtain ⟨q, hq⟩ := HQ.out; exact ⟨q + nq, by rw [hq, World.drewN_drewN]⟩)⟩
      case measure => simp [RowKit.intOf]; omega
    · have hltz : ¬ (k : Int) < (l.length : Int) := by omega
      go_wp2
      go_ret
      exact ⟨rfl, HQ.out⟩
end Go.Proofs.YtpaejkhaiifgdaaGreatDoor.S11

set_option linter.unusedVariables false
namespace Go.Proofs.YtpaejkhaiifgdaaGreatDoor
open Go Go.Proofs Go.RowKit Go.Lib

theorem probVals_get : ∀ (l : List ProbD) (j : Nat) (t : ProbD), l[j]? = some t → ∀ (i : Nat) (v : Value), (probVs t)[i]? = some v → (probVals l)[j * 4 + i]? = some v
  | [], j, t, h, _, _, _ => by simp at h
  | a :: r, 0, t, h, i, v, hv => by
    simp at h
    subst h
    have hi : i < 4 := (List.getElem?_eq_some_iff.1 hv).1
    unfold probVals
    rw [List.flatMap_cons, List.getElem?_append_left (by show _ < 4; omega)]
    simpa using hv
  | a :: r, j + 1, t, h, i, v, hv => by
    have := probVals_get r j t (by simpa using h) i v hv
    unfold probVals at this ⊢
    rw [List.flatMap_cons, List.getElem?_append_right (by show 4 ≤ _; omega)]
    show (List.flatMap probVs r)[(j + 1) * 4 + i - 4]? = _
    rw [show (j + 1) * 4 + i - 4 = j * 4 + i by omega]
    exact this
theorem ProbsRow.cell {w : World} {B : Nat} {v : Value} {l : List ProbD} (h : ProbsRow w B v l) {j : Nat} {p : ProbD} (hj : l[j]? = some p) :
    ∃ g cap, v = .slice (some ⟨g, 0, none⟩) l.length cap ∧ w.cell? ⟨g, j * 4, none⟩ = some (.int .i64 0) ∧ w.cell? ⟨g, j * 4 + 1, none⟩ = some (.int .i64 p.1) ∧ w.cell? ⟨g, j * 4 + 2, none⟩ = some (.int .i64 p.2.1) ∧ w.cell? ⟨g, j * 4 + 3, none⟩ = some (.int .i64 p.2.2) := by
  rcases h.2 with ⟨_, h0⟩ | ⟨g, cap, cur, hv, hB, _⟩
  · have := (List.getElem?_eq_some_iff.1 hj).1
    omega
  · have k : ∀ i u, (probVs p)[i]? = some u → w.cell? ⟨g, j * 4 + i, none⟩ = some u := fun i u hi => by
      have := World.ownsRow.cells h (g := g) (by rw [hv]; rfl) (j * 4 + i) u (probVals_get l j p hj i u hi)
      rwa [Addr.add_lit, Nat.zero_add] at this
    exact ⟨g, cap, hv, k 0 _ rfl, k 1 _ rfl, k 2 _ rfl, k 3 _ rfl⟩
set_option maxHeartbeats 4000000 in
set_option maxRecDepth 100000 in
theorem sameProbs_any (v v' : Value) (ps : List ProbD) (B B' : Nat) (w : World) (h : ProbsRow w B v ps) (h' : ProbsRow w B' v' ps) (hl : ps.length ≤ 1000000000) :
    Calls Tryz.prog 19 #[v, v'] w fun e w' => e = .returned (.bool true) ∧ ∃ q, w' = w.drewN q := by
  obtain ⟨A1, c1, rfl⟩ := S3.row_slice h
  obtain ⟨A2, c2, rfl⟩ := S3.row_slice h'
  have H := hid h
  have H' := hid h'
  clear h h'
  go_enter Tryz.func19, Tryz.ntmps19
  go_wp2
  go_loopw [5] (fun i wr => ∃ k : Nat, i = .int .i64 (k : Int) ∧ k ≤ ps.length ∧ ∃ q, wr = w.drewN q) (fun i _ => ps.length - (RowKit.intOf i).toNat)
  case atStart => exact ⟨0, rfl, Nat.zero_le _, 0, rfl⟩
  case round =>
    obtain ⟨k, rfl, hk, q, rfl⟩ := hrel
    by_cases hlt : k < ps.length
    · have hltz : (k : Int) < (ps.length : Int) := by omega
      obtain ⟨p, hp⟩ : ∃ p, ps[k]? = some p := ⟨_, List.getElem?_eq_getElem hlt⟩
      obtain ⟨g, cap', hv, a0, a1, a2, a3⟩ := H.out.cell hp
      injection hv with hA _ hcp
      subst hA hcp
      obtain ⟨g', cap', hv, b0, b1, b2, b3⟩ := H'.out.cell hp
      injection hv with hA _ hcp
      subst hA hcp
      obtain ⟨pl, pc, pe⟩ := p
      dsimp only at a0 a1 a2 a3 b0 b1 b2 b3
      clear hp
      go_wp2
      go_quiet (fail)
      go_wp2
      go_roundw
      case rel => exact ⟨k + 1, by go_num, by omega, q + nq, by first | rfl | rw [World.drewN_drewN]⟩
      case measure => simp [RowKit.intOf]; omega
    · have hltz : ¬ (k : Int) < (ps.length : Int) := by omega
      go_wp2
      go_ret
      exact ⟨rfl, q, rfl⟩
end Go.Proofs.YtpaejkhaiifgdaaGreatDoor

set_option linter.unusedVariables false
namespace Go.Proofs.YtpaejkhaiifgdaaGreatDoor.S11
open Go Go.Proofs Go.RowKit Go.Lib Go.Proofs.YtpaejkhaiifgdaaGreatDoor Go.Proofs.YtpaejkhaiifgdaaGreatDoor.S10

/-- Everything that both sides answered. -/
structure KXE (w0 : World) (A1 A2 : Option Addr) (rows : List (List Str)) (A3 A4 : Option Addr) (cs : List CurrD) (v1 v2 : Value) (ps : List ProbD) (w : World) : Prop where
  b : Below w0.heap.size w0 w
  r1 : RowsIn w (fun k => k < w.heap.size) A1 rows
  r2 : RowsIn w (fun k => k < w.heap.size) A2 rows
  m1 : CurrsIn w (fun k => k < w.heap.size) A3 cs
  m2 : CurrsIn w (fun k => k < w.heap.size) A4 cs
  p1 : ∃ B, ProbsRow w B v1 ps
  p2 : ∃ B, ProbsRow w B v2 ps
theorem rows_next {w w' : World} {A : Option Addr} {l : List (List Str)} (h : RowsIn w (fun k => k < w.heap.size) A l) (hb : Below w.heap.size w w') : RowsIn w' (fun k => k < w'.heap.size) A l :=
  (h.kept (fun k hk => hb.block k hk)).mono (fun k hk => Nat.lt_of_lt_of_le hk hb.size)
theorem currs_next {w w' : World} {A : Option Addr} {l : List CurrD} (h : CurrsIn w (fun k => k < w.heap.size) A l) (hb : Below w.heap.size w w') : CurrsIn w' (fun k => k < w'.heap.size) A l :=
  (h.below hb).mono (fun k hk => Nat.lt_of_lt_of_le hk hb.size)
theorem KXE.next {w0 w w' : World} {A1 A2 A3 A4 : Option Addr} {rows : List (List Str)} {cs : List CurrD} {v1 v2 : Value} {ps : List ProbD} (h : KXE w0 A1 A2 rows A3 A4 cs v1 v2 ps w) (k : Below w.heap.size w w') : KXE w0 A1 A2 rows A3 A4 cs v1 v2 ps w' := by
  obtain ⟨b, r1, r2, m1, m2, ⟨B1, p1⟩, ⟨B2, p2⟩⟩ := h
  exact ⟨b.trans (k.mono b.size), rows_next r1 k, rows_next r2 k, currs_next m1 k, currs_next m2 k, ⟨B1, S3.row_under p1 k⟩, ⟨B2, S3.row_under p2 k⟩⟩
/-- And the cells of a curriculum. -/
structure KXP (w0 : World) (A1 A2 : Option Addr) (rows : List (List Str)) (A3 A4 : Option Addr) (cs : List CurrD) (v1 v2 : Value) (ps : List ProbD) (fb p : Nat) (y0 y1 : Value) (w : World) : Prop where
  k : KXE w0 A1 A2 rows A3 A4 cs v1 v2 ps w
  c : w.cell? ⟨fb, p, none⟩ = some y0 ∧ w.cell? ⟨fb, p + 1, none⟩ = some y1
  z : fb < w0.heap.size
theorem KXP.next {w0 w w' : World} {A1 A2 A3 A4 : Option Addr} {rows : List (List Str)} {cs : List CurrD} {v1 v2 : Value} {ps : List ProbD} {fb p : Nat} {y0 y1 : Value} (h : KXP w0 A1 A2 rows A3 A4 cs v1 v2 ps fb p y0 y1 w) (k : Below w.heap.size w w') : KXP w0 A1 A2 rows A3 A4 cs v1 v2 ps fb p y0 y1 w' :=
  ⟨h.k.next k, ⟨(k.cell (p := ⟨fb, p, none⟩) (Nat.lt_of_lt_of_le h.z h.k.b.size)).trans h.c.1, (k.cell (p := ⟨fb, p + 1, none⟩) (Nat.lt_of_lt_of_le h.z h.k.b.size)).trans h.c.2⟩, h.z⟩
theorem KXP.drew {w0 w : World} {A1 A2 A3 A4 : Option Addr} {rows : List (List Str)} {cs : List CurrD} {v1 v2 : Value} {ps : List ProbD} {fb p : Nat} {y0 y1 : Value} (h : KXP w0 A1 A2 rows A3 A4 cs v1 v2 ps fb p y0 y1 w) : KXP w0 A1 A2 rows A3 A4 cs v1 v2 ps fb p y0 y1 w.drew := h.next (Below.refl _ _).drew
theorem writeU_len (l : List CurrD) : (writeU l).1.length ≤ l.length := by
  unfold writeU
  split <;> simp
set_option maxHeartbeats 32000000 in
set_option maxRecDepth 100000 in
theorem exact_any (A : Option Addr) (l : List CurrD) (c : Nat) (Ax : Option Addr) (x : List RecD) (cx : Nat) (Ac : Option Addr) (cls : List ClassD) (cc : Nat) (w : World) (hE : S3.Env w)
    (hI : CurrsIn w (fun k => k < w.heap.size) A l) (hl : l.length ≤ 9223372036854775807) (hX : RecsIn w (fun k => k < w.heap.size) Ax x) (hx : x.length ≤ 1000000000) (hsz : ∀ r ∈ x, ∀ f ∈ r.2, f.1.length ≤ 2097152)
    (hC : ClassesIn w (fun k => k < w.heap.size) Ac cls) (hcc : cls.length ≤ cc) (hcm : cc ≤ 9223372036854775807) :
    Calls Tryz.prog 3 #[.slice A l.length c, .slice Ax x.length cx, .slice Ac cls.length cc] w fun e w' => e = .returned (.bool true) ∧ Below w.heap.size w w' := by
  have HCI := hid (fun W (hb : Below w.heap.size w W) => (hI.below hb).mono (P' := fun k => k < W.heap.size) (fun k hk => Nat.lt_of_lt_of_le hk hb.size))
  have HXI := hid (fun W (hb : Below w.heap.size w W) => (hX.below hb).mono (P' := fun k => k < W.heap.size) (fun k hk => Nat.lt_of_lt_of_le hk hb.size))
  have HKI := hid (fun W (hb : Below w.heap.size w W) => (hC.below hb).mono (P' := fun k => k < W.heap.size) (fun k hk => Nat.lt_of_lt_of_le hk hb.size))
  have HE := hid (fun W (hb : Below w.heap.size w W) => hE.below hb)
  have cK := hid (fun w' (hb : Below w.heap.size w w') => awake_any w' (hE.below hb))
  have cK' := cK.out
  unfold Says at cK'
  have cK := hid cK'
  have HI0 := hid hI
  have HX0 := hid hX
  have HSZ := hid hsz
  have HL := hid hl
  have HXL := hid hx
  have HCC := hid (And.intro hcc hcm)
  obtain ⟨NX, hNX⟩ : ∃ N, x.length = N := ⟨_, rfl⟩
  obtain ⟨NL, hNL⟩ : ∃ N, l.length = N := ⟨_, rfl⟩
  obtain ⟨NC, hNC⟩ : ∃ N, cls.length = N := ⟨_, rfl⟩
  have HNX := hid hNX
  have HNL := hid hNL
  have HNC := hid hNC
  rw [hNX] at hx ⊢
  rw [hNL] at hl ⊢
  rw [hNC] at hcc ⊢
  clear cK' hE hI hX hC hsz hNX hNL hNC
  go_enter Tryz.func3, Tryz.ntmps3
  go_wp2
  go_loopw [7] (fun iv wr => ∃ i : Nat, iv = .int .i64 (i : Int) ∧ i ≤ NX ∧ wr = w) (fun iv _ => NX - (RowKit.intOf iv).toNat)
  case atStart => exact ⟨0, rfl, Nat.zero_le _, rfl⟩
  case round =>
    obtain ⟨i, rfl, hi, hwr⟩ := hrel
    have hwr := hwr.symm
    subst hwr
    by_cases hlt : i < NX
    · have hltz : (i : Int) < (NX : Int) := by omega
      have dk : decide (NX ≤ i) = false := decide_eq_false (by omega)
      have hil : i < x.length := by rw [HNX.out]; exact hlt
      obtain ⟨fb, fo, A', c', rfl, hfb, -, -, -, y0, y1⟩ := HX0.out.at_ hil
      obtain ⟨F, hF⟩ : ∃ F, x[i].2.length = F := ⟨_, rfl⟩
      rw [hF] at y1
      clear y0 hF hil
      by_cases h20 : 20 < F
      · have h20z : (20 : Int) < (F : Int) := by omega
        have d20 : decide ((20 : Int) < (F : Int)) = true := decide_eq_true h20z
        go_wp2_with fail
        refine (cK.out _ (Below.refl _ _)).mono ?_
        rintro e w2 ⟨rfl, hb2⟩
        have HB2 := hid hb2
        clear hb2
        go_wp2
        go_ret
        exact ⟨rfl, HB2.out⟩
      · have h20z : ¬ (20 : Int) < (F : Int) := by omega
        have d20 : decide ((20 : Int) < (F : Int)) = false := decide_eq_false h20z
        go_wp2
        go_roundw
        case rel => exact ⟨i + 1, by go_num, by omega, by first | rfl | trivial⟩
        case measure => simp [RowKit.intOf]; omega
    · have hltz : ¬ (i : Int) < (NX : Int) := by omega
      have cW := uwrite_any A l c w (HI0.out) (HE.out _ (Below.refl _ _))
      unfold WriteOut at cW
      have cRW := fun W hb => urwrite_any A l c W (HCI.out W hb)
      unfold WriteOut at cRW
      have cRD := fun W hb => uread_any Ax x cx W (HXI.out W hb) (by have := HXL.out; omega) (fun r hr f hf => by have := HSZ.out r hr f hf; omega) (HE.out W hb)
      unfold ReadOut at cRD
      have cRR := fun W hb => rread11_any Ax x cx W (HXI.out W hb) (by have := HXL.out; omega) HSZ.out
      unfold ReadOut at cRR
      have cV := fun W hb => uvalid_any A l c W (HCI.out W hb) (HE.out W hb)
      have cRV := fun W hb => urvalid_any A l c W (HCI.out W hb)
      unfold Says at cV cRV
      have hrn := writeU_len l
      have hps := recsM_probs x
      obtain ⟨⟨rows, e1⟩, hwu⟩ : ∃ S, writeU l = S := ⟨_, rfl⟩
      obtain ⟨⟨cs, ps⟩, hru⟩ : ∃ S, recsM x = S := ⟨_, rfl⟩
      obtain ⟨R, hR⟩ : ∃ R, validU l = R := ⟨_, rfl⟩
      have hcl := recsM_len x
      rw [hwu] at cW hrn
      dsimp only at hrn
      simp only [hwu] at cRW
      simp only [hru] at cRD cRR
      rw [hru] at hps hcl
      dsimp only at hps hcl
      simp only [hR] at cV cRV
      rw [HNX.out] at hps
      simp only [HNX.out] at cRD cRR
      rw [HNL.out] at cW
      simp only [HNL.out] at cRW cV cRV
      have CW := hid cW
      have CRW := hid cRW
      have CRD := hid cRD
      have CRR := hid cRR
      have CV := hid cV
      have CRV := hid cRV
      have HPS := hid hps
      have HRN : Hid (rows.length ≤ 9223372036854775807) := hid (Nat.le_trans hrn HL.out)
      have HCL := hid hcl
      clear cW cRW cRD cRR cV cRV hwu hru hR hps hcl hrn
      go_wp2_with fail
      refine CW.out.mono ?_
      rintro e w1 ⟨⟨v1, L1, hL1, rfl, hrr1⟩, hb1⟩
      obtain ⟨A1, c1, rfl, _, _, hri1⟩ := hrr1.rowsIn
      have hl1 : L1.length = rows.length := by rw [← hL1, List.length_map]
      rw [hL1] at hri1
      try dsimp only at hri1 hl1
      rw [hl1]
      have HR1 : Hid (RowsIn w1 (fun k => k < w1.heap.size) A1 rows) := hid (hri1.mono (fun k hk => hk.2))
      have HB1 := hid hb1
      clear hrr1 hri1 hb1 hL1 hl1 CW
      go_wp2_with fail
      refine (CRW.out w1 HB1.out).mono ?_
      rintro e w2 ⟨⟨v2, L2, hL2, rfl, hrr2⟩, hb2⟩
      obtain ⟨A2, c2, rfl, _, _, hri2⟩ := hrr2.rowsIn
      have hl2 : L2.length = rows.length := by rw [← hL2, List.length_map]
      rw [hL2] at hri2
      try dsimp only at hri2 hl2
      rw [hl2]
      have HR2 : Hid (RowsIn w2 (fun k => k < w2.heap.size) A2 rows) := hid (hri2.mono (fun k hk => hk.2))
      have HR1' := hid (rows_next HR1.out hb2)
      have HB2 := hid (HB1.out.trans (hb2.mono HB1.out.size))
      clear hrr2 hri2 hb2 hL2 hl2 CRW HR1 HB1
      go_wp2_with fail
      refine (CRD.out w2 HB2.out).mono ?_
      rintro e w3 ⟨v3, v4, rfl, hrm3, hpr3, hb3⟩
      obtain ⟨A3, c3, rfl, _, _, hin3⟩ := hrm3.currsIn
      have HM3 : Hid (CurrsIn w3 (fun k => k < w3.heap.size) A3 cs) := hid (hin3.mono (fun k hk => by rcases hk with h | h; exact h.2; exact h.2))
      have HP3 := hid hpr3
      have HR13 := hid (rows_next HR1'.out hb3)
      have HR23 := hid (rows_next HR2.out hb3)
      have HB3 := hid (HB2.out.trans (hb3.mono HB2.out.size))
      clear hrm3 hpr3 hb3 hin3 CRD HR1' HR2 HB2
      go_wp2_with fail
      refine (CRR.out w3 HB3.out).mono ?_
      rintro e w4 ⟨v5, v6, rfl, hrm4, hpr4, hb4⟩
      obtain ⟨A4, c4, rfl, _, _, hin4⟩ := hrm4.currsIn
      have HK4 : Hid (KXE w A1 A2 rows A3 A4 cs v4 v6 ps w4) := hid ⟨HB3.out.trans (hb4.mono HB3.out.size), rows_next HR13.out hb4, rows_next HR23.out hb4, currs_next HM3.out hb4, hin4.mono (fun k hk => by rcases hk with h | h; exact h.2; exact h.2), ⟨_, S3.row_under HP3.out hb4⟩, ⟨_, hpr4⟩⟩
      clear hrm4 hpr4 hb4 hin4 CRR HR13 HR23 HM3 HP3 HB3
      obtain ⟨NR, hNR⟩ : ∃ N, rows.length = N := ⟨_, rfl⟩
      obtain ⟨NM, hNM⟩ : ∃ N, cs.length = N := ⟨_, rfl⟩
      have HNR := hid hNR
      have HNM := hid hNM
      rw [hNR, hNM]
      clear hNR hNM
      go_wp2
      go_loopw [16] (fun jv wr => ∃ j : Nat, jv = .int .i64 (j : Int) ∧ j ≤ NL ∧ Hid (KXE w A1 A2 rows A3 A4 cs v4 v6 ps wr)) (fun jv _ => NL - (RowKit.intOf jv).toNat)
      case atStart => exact ⟨0, rfl, Nat.zero_le _, HK4⟩
      case round =>
        clear HK4
        obtain ⟨j, rfl, hj, hK⟩ := hrel
        by_cases hgo : j < NL ∧ NC ≤ 40
        · obtain ⟨hjt, hc40⟩ := hgo
          have hjz : (j : Int) < (NL : Int) := by omega
          have hcz : (NC : Int) ≤ 40 := by omega
          have dj : decide (NL ≤ j) = false := decide_eq_false (by omega)
          have hjl : j < l.length := by rw [HNL.out]; exact hjt
          obtain ⟨fb, fo, q, rfl, hfb, hri, y0, y1⟩ := HI0.out.at_ hjl
          obtain ⟨⟨code, crs⟩, hx⟩ : ∃ x, l[j] = x := ⟨_, rfl⟩
          rw [hx] at hri y0 y1
          dsimp only at y0 y1
          have cP1 := fun (W : World) (hb : Below w.heap.size w W) => pairs_any (code, crs) q Ac cls cc (by rw [HNC.out]; exact hc40) HCC.out.1 HCC.out.2 W ((hri.below hb).mono (fun k hk => Nat.lt_of_lt_of_le hk hb.size)) (HKI.out W hb)
          have cP2 := fun (W : World) (hb : Below w.heap.size w W) => rpairs_any (code, crs) q Ac cls cc (by rw [HNC.out]; exact hc40) W ((hri.below hb).mono (fun k hk => Nat.lt_of_lt_of_le hk hb.size)) (HKI.out W hb)
          unfold PairOut currV at cP1 cP2
          dsimp only at cP1 cP2
          obtain ⟨PA, hPA⟩ : ∃ P, pairsM crs cls = P := ⟨_, rfl⟩
          have hpl := pairsM_len crs cls (by rw [HNC.out]; exact hc40)
          rw [hPA] at hpl
          simp only [hPA, HNC.out] at cP1 cP2
          obtain ⟨X1, hX1⟩ : ∃ X, ba code = X := ⟨_, rfl⟩
          obtain ⟨CN, hCN⟩ : ∃ F, crs.length = F := ⟨_, rfl⟩
          rw [hX1] at y0
          rw [hCN] at y1
          simp only [hX1, hCN] at cP1 cP2
          have hkx : KXP w A1 A2 rows A3 A4 cs v4 v6 ps fb (fo + j * 2) (.string X1) (.slice q.1 CN q.2) wr := ⟨hK.out, ⟨(hK.out.b.cell (p := ⟨fb, fo + j * 2, none⟩) hfb).trans y0, (hK.out.b.cell (p := ⟨fb, fo + j * 2 + 1, none⟩) hfb).trans y1⟩, hfb⟩
          have CP1 := hid cP1
          have CP2 := hid cP2
          have HPL := hid hpl
          have HKX := hid hkx
          clear cP1 cP2 hPA hpl hX1 hCN hx hri y0 y1 hkx hK
          obtain ⟨y0, y1⟩ := HKX.out.c
          go_upto_region 13 with fail
          go_cut [75] (fun bv W => bv = .bool false ∧ Hid (KXE w A1 A2 rows A3 A4 cs v4 v6 ps W))
          case first =>
            have hk' := HKX.out.drew
            clear y0 y1
            go_region_held3 (fun w' => w'.cell? ⟨fb, fo + j * 2, none⟩ = some (.string X1) ∧ w'.cell? ⟨fb, fo + j * 2 + 1, none⟩ = some (.slice q.1 CN q.2))
              (first | with_reducible exact hk'.c)
              (first
                | (go_at_call 13; refine (CP1.out _ hk'.k.b).mono ?_; rintro e wA ⟨⟨va, rfl, hva⟩, hba⟩; have hk' := hk'.next hba; (try have hvb := S3.row_under hvb hba))
                | (go_at_call 14; refine (CP2.out _ hk'.k.b).mono ?_; rintro e wB ⟨⟨vb, rfl, hvb⟩, hbb⟩; have hk' := hk'.next hbb; (try have hva := S3.row_under hva hbb))
                | (go_at_call 12; refine (samePairs_any va vb PA _ _ _ hva hvb (by have := HPL.out; omega)).mono ?_; rintro e wC ⟨rfl, nq, rfl⟩; have hk' := hk'.next (S3.below_drewN (Below.refl _ _) nq)))
            all_goals
              go_wp2_with fail
              go_meet
              exact ⟨rfl, hid hk'.k⟩
          case rest =>
            obtain ⟨rfl, hK5⟩ := hcut
            clear HKX CP1 CP2 y0 y1
            go_wp2
            go_roundw
            case rel => exact ⟨j + 1, by go_num, by omega, hK5⟩
            case measure => simp [RowKit.intOf]; omega
        · have hout : (∃ P : Prop, P ∧ (¬ (j : Int) < (NL : Int) ∨ ((j : Int) < (NL : Int) ∧ ¬ (NC : Int) ≤ 40))) := ⟨True, trivial, by omega⟩
          obtain ⟨_, -, hjz | ⟨hjz, hcz⟩⟩ := hout
          all_goals
            go_wp2_with fail
            refine (cK.out _ hK.out.b).mono ?_
            rintro e w5 ⟨rfl, hb5⟩
            have HK5 := hid (hK.out.next hb5)
            clear hb5
            go_wp2_with fail
            refine (CV.out _ HK5.out.b).mono ?_
            rintro e w6 ⟨rfl, hb6⟩
            have HK6 := hid (HK5.out.next hb6)
            clear hb6 HK5
            go_wp2_with fail
            refine (CRV.out _ HK6.out.b).mono ?_
            rintro e w7 ⟨rfl, hb7⟩
            have HK7 := hid (HK6.out.next hb7)
            clear hb7 HK6
            have cSL := sameLists_any A1 A2 rows rows c1 c2 _ _ w7 HK7.out.r1 HK7.out.r2 HRN.out
            rw [decide_eq_true rfl, HNR.out] at cSL
            have CSL := hid cSL
            clear cSL
            go_wp2_with fail
            refine CSL.out.mono ?_
            rintro e w8 ⟨rfl, q8, hq8⟩
            have HK8 : Hid (KXE w A1 A2 rows A3 A4 cs v4 v6 ps w8) := hid (by rw [hq8]; exact HK7.out.next (S3.below_drewN (Below.refl _ _) q8))
            clear hq8 HK7 CSL
            have cSM := usame_any A3 A4 cs c3 c4 _ _ w8 HK8.out.m1 HK8.out.m2 (by have := HCL.out; omega)
            rw [HNM.out] at cSM
            have CSM := hid cSM
            clear cSM
            go_wp2_with fail
            refine CSM.out.mono ?_
            rintro e w9 ⟨rfl, q9, hq9⟩
            have HK9 : Hid (KXE w A1 A2 rows A3 A4 cs v4 v6 ps w9) := hid (by rw [hq9]; exact HK8.out.next (S3.below_drewN (Below.refl _ _) q9))
            clear hq9 HK8 CSM
            obtain ⟨BP1, hp1⟩ := HK9.out.p1
            obtain ⟨BP2, hp2⟩ := HK9.out.p2
            have CSP := hid (sameProbs_any v4 v6 ps BP1 BP2 w9 hp1 hp2 (by have := HPS.out; omega))
            clear hp1 hp2
            go_wp2_with fail
            refine CSP.out.mono ?_
            rintro e wA ⟨rfl, qA, hqA⟩
            have HKA : Hid (KXE w A1 A2 rows A3 A4 cs v4 v6 ps wA) := hid (by rw [hqA]; exact HK9.out.next (S3.below_drewN (Below.refl _ _) qA))
            clear hqA HK9 CSP
            go_wp2
            go_ret
            exact ⟨rfl, HKA.out.b⟩
end Go.Proofs.YtpaejkhaiifgdaaGreatDoor.S11

