/-
  The first error of requests by the specification: Valid. Conditions: the requests lie in memory.
-/
import Derived.Test.YtlgmanbilaminaaGreatDoorXN01
import Derived.Test.YtlgmanbilaminaaGreatDoorXN02
import Derived.Test.YtlgmanbilaminaaGreatDoorXN03
import Derived.Test.YtlgmanbilaminaaGreatDoorXN04
import Derived.Test.YtlgmanbilaminaaGreatDoorXN05
import Derived.Test.YtlgmanbilaminaaGreatDoorXN06
import Derived.Test.YtlgmanbilaminaaGreatDoorXN07
import Derived.Test.YtlgmanbilaminaaGreatDoorXN08
import Derived.Test.YtlgmanbilaminaaGreatDoorXN09
import Derived.Test.YtlgmanbilaminaaGreatDoorProg
import Derived.WalkKit
import Derived.WalkSpells
import Derived.WalkLawsBesides
import Derived.Lib.Hide
import Derived.Deep.QuietTactic
import Derived.BigQuiet
import Derived.Laws.Rows
import Derived.OwnWalk
import Derived.Lib.BufferWrite
import Derived.Lib.UnsafeStr
import Derived.Laws.IdiomStrings
import Derived.Laws.BytesArg
import Derived.Laws.BytesString
import Derived.Laws.OwnMore
import Derived.Lib.IndexLaws
import Derived.Lib.ItoaNum
import Derived.Lib.Atoi
import Derived.Lib.Bytealg
import Derived.RangeFuncNested
import Derived.RangeFuncBound
import Derived.RangeFuncCalls
import Derived.RangeFuncLeaves
import Derived.Shelf.Abstract
import Derived.Shelf.RegionOpen
import Derived.OwnWalkIn
import Derived.Lib.SlTrimSet
import Derived.Shelf.Strings.Builder1
import Derived.Shelf.Strings.Builder2
import Derived.Shelf.Strings.OnBuilder
import Derived.Shelf.Strings.Trim
import Derived.Shelf.Small.Utf8
import Derived.Shelf.Small.Bits
import Derived.Shelf.Small.Strs
import Derived.Shelf.Small.Wraps
import Derived.Shelf.Strings.BuilderF
import Derived.Shelf.Strings.BuilderK
import Derived.Shelf.Strings.Builder2Cap
import Derived.Shelf.Strconv.Atoi
import Derived.Shelf.Strconv.Itoa0
import Derived.Shelf.Strconv.Itoa1
import Derived.Shelf.LaysM
import Derived.Shelf.Strconv.Itoa2
import Derived.Shelf.Strconv.Itoa3
import Derived.Shelf.Strconv.AtoiErrFast
import Derived.Shelf.Strconv.ParseIntEmpty
import Derived.Shelf.Strconv.AtoiFail
import Derived.Shelf.Strconv.Clone
import Derived.Shelf.Strconv.SyntaxError
import Derived.Shelf.LaysC
import Derived.Shelf.Strconv.ToError
import Derived.Shelf.Strconv.AtoiErr
import Derived.Shelf.Strings.Search1
import Derived.Shelf.Strings.Search2
import Derived.Shelf.Strings.Search3
import Derived.Shelf.Strings.Cut
import Derived.Shelf.Strings.Shaped
import Derived.Shelf.Strings.Prefix
import Derived.Shelf.Strings.Runes
import Derived.Shelf.Strings.AsciiSet
import Derived.Shelf.Bits.Mul64
import Derived.Shelf.Strings.Repeat
import Derived.Shelf.Unicode.DecodeSlow
import Derived.Shelf.Strings.BuilderCap
import Derived.Shelf.Slices.Turned
import Derived.Ground.Names2Prog
import Derived.Shelf.Slices.Clone
import Derived.Ground.SlsfProg
import Derived.Shelf.SlSortCmp.Insertion
import Derived.Shelf.SlSortCmp.SiftDown1
import Derived.Shelf.SlSortCmp.HeapSort1
import Derived.Shelf.SlSortCmp.Insertion1
import Derived.Shelf.SlSortCmp.Median1
import Derived.Shelf.SlSortCmp.Pivot1
import Derived.Shelf.SlSortCmp.ReverseRange1
import Derived.Shelf.SlSortCmp.PartialInsertion1
import Derived.Shelf.SlSortCmp.PartitionEqual1
import Derived.Shelf.SlSortCmp.Partition1
import Derived.Shelf.SlSortCmp.Pdq1
import Derived.Shelf.SlSortCmp.Whole1
import Derived.Shelf.SlSortCmp.NoneTotal
import Derived.Shelf.Strings.SlTrimAscii
import Derived.Lib.AtoiErrMem
import Derived.Handy
import Derived.Laws.ResultCell
import Derived.RegionTactic
import Derived.Lib.Repeat
import Derived.Deep.RegionHeld3
import Derived.Lib.SlicesS
import Derived.TacticsInMore
import Derived.LoopNIn
import Derived.LoopIn
import Derived.Laws.BitsAllLaws
import Derived.Laws.BitsLemmas
import Derived.Deep.MidRow
import Derived.Deep.DeepCutAuto
import Derived.Lib.Join
import Derived.Laws.Concat
import Derived.Deep.RegionLaw
import Derived.StillTailTactics
import Derived.Maps.AppendAt
import Derived.Laws.AppendOwn
set_option linter.unusedVariables false
namespace Go.Proofs.YtlgmanbilaminaaGreatDoor.S12
open Go Go.Proofs Go.RowKit Go.Lib Go.Proofs.YtlgmanbilaminaaGreatDoor Go.Proofs.YtlgmanbilaminaaGreatDoor.S11
theorem checkGo_next (c : Str) (cs : List Str) (k : Nat) (h : k < cs.length) :
    S3.checkGo (c :: cs.take k) (cs.drop k) = if S3.validC cs[k] = false then 10 else if cs[k] ∈ c :: cs.take k then 11 else S3.checkGo (c :: cs.take (k + 1)) (cs.drop (k + 1)) := by
  have := S3.checkGo_step (c :: cs) (k + 1) (by simpa using h)
  simpa using this
structure KSE (w0 : World) (L : List Str) (v : Value) (w : World) : Prop where
  r : S3.StrRow w w0.heap.size v L
  b : Below w0.heap.size w0 w
theorem KSE.next {w0 w w' : World} {L : List Str} {v : Value} (h : KSE w0 L v w) (hb : Below w.heap.size w w') : KSE w0 L v w' := ⟨row_under h.r hb, h.b.trans (hb.mono h.b.size)⟩
theorem KSE.app {w0 w w' : World} {L L' : List Str} {v v' : Value} (h : KSE w0 L v w) (hg : w.grownBy w' v.ownBlock) (hr : S3.StrRow w' w0.heap.size v' L') : KSE w0 L' v' w' :=
  ⟨hr, h.b.grown hg h.b.size (fun k hk => (World.ownsRow.lt h.r k hk).1)⟩
theorem row_take {w : World} {P : Nat → Prop} {A : Option Addr} {cs : List Str} (h : S3.StrsIn w P A cs) (k : Nat) : S3.StrsIn w P A (cs.take k) := by
  rcases h with h0 | ⟨b, off, hA, hP, hc⟩
  · exact .inl (by rw [h0, List.take_nil])
  · refine .inr ⟨b, off, hA, hP, fun j s hj => hc j s ?_⟩
    rw [List.getElem?_take] at hj
    split at hj
    · exact hj
    · simp at hj
set_option maxHeartbeats 32000000 in
set_option maxRecDepth 100000 in
theorem qrvalid_any (A : Option Addr) (l : List ReqD) (c : Nat) (w : World) (h : ReqsIn w (fun k => k < w.heap.size) A l) :
    Calls Tryz.prog 13 #[.slice A l.length c] w (Says (.int .i64 (validQ l)) w) := by
  obtain ⟨i9, hi9, hz9, hsi9, hby9⟩ := info_parts S3.infoStr
  unfold Says
  obtain ⟨R, hR⟩ : ∃ R, validQ l = R := ⟨_, rfl⟩
  rw [hR]
  unfold validQ at hR
  have HH := hid h
  clear h
  by_cases h400 : 400 < l.length
  · rw [if_pos h400] at hR
    subst hR
    have hz : (400 : Int) < (l.length : Int) := by omega
    go_enter Tryz.func13, Tryz.ntmps13
    go_wp2
    go_ret
    exact ⟨rfl, Below.refl _ _⟩
  · rw [if_neg h400] at hR
    have hz : ¬ (400 : Int) < (l.length : Int) := by omega
    have HR : Hid (goQ (l.take 0) (l.drop 0) = R) := hid hR
    clear hR
    go_enter Tryz.func13, Tryz.ntmps13
    go_wp2
    go_loopw [3, 4] (fun v iv wr => ∃ (i n : Nat) (As : Option Addr) (cn : Nat), v = .slice As n cn ∧ iv = .int .i64 (i : Int) ∧ i ≤ l.length ∧ n ≤ 64 ∧ Hid ((studs (l.take i)).length = n) ∧ Hid (goQ (l.take i) (l.drop i) = R) ∧ Hid (KSE w (studs (l.take i)) (.slice As n cn) wr)) (fun _ iv _ => l.length - (RowKit.intOf iv).toNat)
    case atStart => exact ⟨0, 0, none, 0, rfl, rfl, Nat.zero_le _, Nat.zero_le _, hid rfl, HR, hid ⟨World.ownsRow_nil _ _ _ _, Below.refl _ _⟩⟩
    case round =>
      obtain ⟨i, n, As, cn, rfl, rfl, hi, hn64, hn, hE, hK⟩ := hrel
      by_cases hlt : i < l.length
      · have hltz : (i : Int) < (l.length : Int) := by omega
        have dk : decide (l.length ≤ i) = false := decide_eq_false (by omega)
        have hst := goQ_step l i hlt
        rw [hE.out] at hst
        obtain ⟨fb, fo, ⟨A2, c2⟩, rfl, hfb, hri, y0, y1, y2, y3⟩ := (HH.out.below hK.out.b).at_ hlt
        have hix := idxP_lt (wishes l) i (by rw [wishes_len]; exact hlt)
        rw [show (wishes l)[i]'(by rw [wishes_len]; exact hlt) = (l[i].s, l[i].c) by simp [wishes], wishes_take] at hix
        have hsn := studs_snoc (l.take i) l[i]
        rw [← List.take_succ_eq_append_getElem hlt] at hsn
        have hpl : (l.take i).length = i := by rw [List.length_take]; omega
        obtain ⟨PRE, hPRE⟩ : ∃ P, l.take i = P := ⟨_, rfl⟩
        rw [hPRE] at hst hix hsn hpl hn hK
        have hE0 := hE
        obtain ⟨⟨st, co, pr, cs⟩, hr⟩ : ∃ r, l[i] = r := ⟨_, rfl⟩
        rw [hr] at hst y0 y1 y2 y3 hri hix hsn
        obtain ⟨ht, ht1, ht2⟩ := hri
        dsimp only at y0 y1 y2 y3 ht ht1 ht2 hix hsn
        have cV1 := fun w => S3.refValid_any (ba st) w
        rw [show (ba st).data.toList = st from rfl] at cV1
        have cV2 := fun w => S3.refValid_any (ba co) w
        rw [show (ba co).data.toList = co from rfl] at cV2
        have cI : Hid (∀ W, Below w.heap.size w W → Calls Tryz.prog 46 #[.slice (some ⟨fb, fo, none⟩) l.length c, .string (ba st), .string (ba co)] W fun e w' => e = .returned (.int .i64 (idxP (wishes l) (st, co) 0)) ∧ W = w') :=
          hid (fun W hb => rfind_any (some ⟨fb, fo, none⟩) l c (ba st) (ba co) _ W (HH.out.below hb) (by omega))
        have cHS : Hid (∀ W, KSE w (studs PRE) (.slice As n cn) W → Calls Tryz.prog 45 #[.slice As n cn, .string (ba st)] W fun e w' => e = .returned (.bool (decide (st ∈ studs PRE))) ∧ W = w') := hid (fun W hk => by
          obtain ⟨Ar', cr', hv, _, _, hin⟩ := hk.r.strsIn
          have hv' : As = Ar' := by injection hv
          have cH := rhas_any As (studs PRE) cn (ba st) _ W (by rw [hv']; exact hin) (by rw [hn.out]; omega)
          rw [hn.out] at cH
          exact cH)
        have hb1 := (Below.refl wr.heap.size wr).alloc (Nat.le_refl _) (.cells #[.string (ba st), .string (ba co), .int .i64 pr, .slice A2 cs.length c2] 61)
        have hx1 := Box4.new wr (.string (ba st)) (.string (ba co)) (.int .i64 pr) (.slice A2 cs.length c2)
        have hT := ht.kept (w' := wr.alloc (.cells #[.string (ba st), .string (ba co), .int .i64 pr, .slice A2 cs.length c2] 61)) (fun k hk => hb1.block k (Nat.lt_of_lt_of_le hk hK.out.b.size))
        obtain ⟨V1, hV1⟩ : ∃ V, S3.validC st = V := ⟨_, rfl⟩
        obtain ⟨V2, hV2⟩ : ∃ V, S3.validC co = V := ⟨_, rfl⟩
        obtain ⟨E, hE2⟩ : ∃ E, reqM ⟨st, co, pr, cs⟩ = E := ⟨_, rfl⟩
        rw [hE2] at hst
        unfold reqM at hE2
        dsimp only at hE2
        rw [hV1, hV2] at hE2
        rw [hV1] at cV1
        rw [hV2] at cV2
        have hacc : accM PRE ⟨st, co, pr, cs⟩ = if (st, co) ∈ wishes PRE then 11 else if st ∈ studs PRE then 0 else if (studs PRE).length = 64 then 2 else 0 := by
          unfold accM
          dsimp only
          by_cases hw : (st, co) ∈ wishes PRE
          · rw [if_neg (fun k => k.1 (wish_stud hw)), if_pos hw, if_pos hw]
          · rw [if_neg hw, if_neg hw, if_neg (show ¬ PRE.length = 400 by omega)]
            by_cases hs : st ∈ studs PRE
            · rw [if_neg (fun k => k.1 hs), if_pos hs]
            · rw [if_neg hs]
              by_cases h6 : (studs PRE).length = 64
              · rw [if_pos ⟨hs, h6⟩, if_pos h6]
              · rw [if_neg (fun k => h6 k.2), if_neg h6]
        rw [hacc] at hst
        obtain ⟨X1, hX1⟩ : ∃ X, ba st = X := ⟨_, rfl⟩
        rw [hX1] at y0 cV1 cI cHS hb1 hx1 hT
        have hXS : S3.strVals [st] = [.string X1] := by rw [← hX1]; rfl
        obtain ⟨X2, hX2⟩ : ∃ X, ba co = X := ⟨_, rfl⟩
        have hX2l : X2.toList = co := by rw [Lib.toList_data, ← hX2]; rfl
        rw [hX2] at y1 cV2 cI hb1 hx1 hT
        obtain ⟨T1, hT1⟩ : ∃ F, cs.length = F := ⟨_, rfl⟩
        rw [hT1] at y3 hE2 hb1 hx1 ht1 hT
        have HT1 := hid hT1
        have HIX := hid hix
        have HST := hid hst
        have HSN := hid hsn
        have HT := hid hT
        have HX1 := hid hx1
        have HXS := hid hXS
        have HX2L := hid hX2l
        have HVC := hid hV2
        have HKB := hid (hK.out.next hb1)
        have hnxt : Hid (goQ (PRE ++ [⟨st, co, pr, cs⟩]) (l.drop (i + 1)) = goQ (l.take (i + 1)) (l.drop (i + 1))) := hid (by rw [List.take_succ_eq_append_getElem hlt, hPRE, hr])
        clear hr hV1 hV2 hX1 hX2 hst ht hT hix hsn hE hE0 hb1 hx1 hT1 hXS hX2l hacc hK hpl hPRE hnxt
        cases V1 with
        | false =>
          have HRR : Hid (R = 10) := hid (by have h := HST.out; rw [← hE2] at h; simpa using h)
          clear hE2 cHS cI
          go_wp2_with fail
          generalize wr.alloc (.cells #[.string X1, .string X2, .int .i64 pr, .slice A2 T1 c2] 61) = w1 at HKB HX1 HT ⊢
          obtain ⟨x0, x1, x2, x3⟩ := HX1.out.cells
          go_wp2_with fail
          refine (cV1 _).mono ?_
          rintro e w' ⟨rfl, rfl⟩
          go_wp2
          go_ret
          rw [HRR.out]
          exact ⟨rfl, HKB.out.b⟩
        | true =>
        rw [if_neg (by simp)] at hE2
        cases V2 with
        | false =>
          have HRR : Hid (R = 10) := hid (by have h := HST.out; rw [← hE2] at h; simpa using h)
          clear hE2 cHS cI
          go_wp2_with fail
          generalize wr.alloc (.cells #[.string X1, .string X2, .int .i64 pr, .slice A2 T1 c2] 61) = w1 at HKB HX1 HT ⊢
          obtain ⟨x0, x1, x2, x3⟩ := HX1.out.cells
          go_wp2_with fail
          refine (cV1 _).mono ?_
          rintro e w' ⟨rfl, rfl⟩
          go_wp2_with fail
          refine (cV2 _).mono ?_
          rintro e w' ⟨rfl, rfl⟩
          go_wp2
          go_ret
          rw [HRR.out]
          exact ⟨rfl, HKB.out.b⟩
        | true =>
        rw [if_neg (by simp)] at hE2
        by_cases p1 : pr < 1
        · rw [if_pos p1] at hE2
          have p1d : decide (pr < 1) = true := decide_eq_true p1
          have HRR : Hid (R = 3) := hid (by have h := HST.out; rw [← hE2] at h; simpa using h)
          clear hE2 cHS cI
          go_wp2_with fail
          generalize wr.alloc (.cells #[.string X1, .string X2, .int .i64 pr, .slice A2 T1 c2] 61) = w1 at HKB HX1 HT ⊢
          obtain ⟨x0, x1, x2, x3⟩ := HX1.out.cells
          go_wp2_with fail
          refine (cV1 _).mono ?_
          rintro e w' ⟨rfl, rfl⟩
          go_wp2_with fail
          refine (cV2 _).mono ?_
          rintro e w' ⟨rfl, rfl⟩
          go_wp2
          go_ret
          rw [HRR.out]
          exact ⟨rfl, HKB.out.b⟩
        rw [if_neg p1] at hE2
        have p1d : decide (pr < 1) = false := decide_eq_false p1
        by_cases p2 : 9 < pr
        · rw [if_pos p2] at hE2
          have p2d : decide (9 < pr) = true := decide_eq_true p2
          have HRR : Hid (R = 3) := hid (by have h := HST.out; rw [← hE2] at h; simpa using h)
          clear hE2 cHS cI
          go_wp2_with fail
          generalize wr.alloc (.cells #[.string X1, .string X2, .int .i64 pr, .slice A2 T1 c2] 61) = w1 at HKB HX1 HT ⊢
          obtain ⟨x0, x1, x2, x3⟩ := HX1.out.cells
          go_wp2_with fail
          refine (cV1 _).mono ?_
          rintro e w' ⟨rfl, rfl⟩
          go_wp2_with fail
          refine (cV2 _).mono ?_
          rintro e w' ⟨rfl, rfl⟩
          go_wp2
          go_ret
          rw [HRR.out]
          exact ⟨rfl, HKB.out.b⟩
        rw [if_neg p2] at hE2
        have p2d : decide (9 < pr) = false := decide_eq_false p2
        by_cases z2 : 8 < T1
        · have z2' : (8 : Int) < (T1 : Int) := by omega
          have z2d : decide ((8 : Int) < (T1 : Int)) = true := decide_eq_true z2'
          rw [if_pos z2] at hE2
          have HRR : Hid (R = 2) := hid (by have h := HST.out; rw [← hE2] at h; simpa using h)
          clear hE2 cHS cI
          go_wp2_with fail
          generalize wr.alloc (.cells #[.string X1, .string X2, .int .i64 pr, .slice A2 T1 c2] 61) = w1 at HKB HX1 HT ⊢
          obtain ⟨x0, x1, x2, x3⟩ := HX1.out.cells
          go_wp2_with fail
          refine (cV1 _).mono ?_
          rintro e w' ⟨rfl, rfl⟩
          go_wp2_with fail
          refine (cV2 _).mono ?_
          rintro e w' ⟨rfl, rfl⟩
          go_wp2
          go_ret
          rw [HRR.out]
          exact ⟨rfl, HKB.out.b⟩
        have z2' : ¬ (8 : Int) < (T1 : Int) := by omega
        have z2d : decide ((8 : Int) < (T1 : Int)) = false := decide_eq_false z2'
        rw [if_neg z2] at hE2
        have hck : S3.checkGo (co :: cs.take 0) (cs.drop 0) = E := by
          rw [← hE2]
          unfold S3.checkM
          rw [if_neg (by simp [HT1.out]; omega)]
          rw [S3.checkGo, if_neg (by simp [HVC.out]), if_neg (by simp)]
          rfl
        have HCK := hid hck
        clear hE2 hck z2
        go_wp2_with fail
        generalize wr.alloc (.cells #[.string X1, .string X2, .int .i64 pr, .slice A2 T1 c2] 61) = w1 at HKB HX1 HT ⊢
        obtain ⟨x0, x1, x2, x3⟩ := HX1.out.cells
        generalize hBX : wr.heap.size = BX at HX1 x0 x1 x2 x3 ⊢
        go_wp2_with fail
        refine (cV1 _).mono ?_
        rintro e w' ⟨rfl, rfl⟩
        go_wp2_with fail
        refine (cV2 _).mono ?_
        rintro e w' ⟨rfl, rfl⟩
        go_wp2
        clear x0 x1 x2 x3 hBX cV1 cV2
        have HX2 := HX1
        have HT2 := HT
        have HK2 := HKB
        go_loopw [6] (fun kv wq => ∃ k : Nat, kv = .int .i64 (k : Int) ∧ k ≤ T1 ∧ Hid (S3.checkGo (co :: cs.take k) (cs.drop k) = E) ∧ Hid (KSE w (studs PRE) (.slice As n cn) wq) ∧ Hid (Box4 wq BX (.string X1) (.string X2) (.int .i64 pr) (.slice A2 T1 c2)) ∧ Hid (S3.StrsIn wq (fun b => b < w.heap.size) A2 cs)) (fun kv _ => T1 - (RowKit.intOf kv).toNat)
        case atStart => exact ⟨0, rfl, Nat.zero_le _, HCK, HK2, HX2, HT2⟩
        case round =>
          clear HX1 HT HKB HX2 HT2 HK2 HCK
          obtain ⟨k, rfl, hk, hC, HKB, HX1, HT⟩ := hrel
          obtain ⟨x0, x1, x2, x3⟩ := HX1.out.cells
          by_cases hkt : k < T1
          · have hktz : (k : Int) < (T1 : Int) := by omega
            have dk2 : decide (T1 ≤ k) = false := decide_eq_false (by omega)
            have hkl : k < cs.length := by rw [HT1.out]; exact hkt
            have hst := checkGo_next co cs k hkl
            rw [hC.out] at hst
            obtain ⟨b2, o2, rfl, _, hc2⟩ := HT.out.at_ hkl
            obtain ⟨y, hy⟩ : ∃ y, cs[k] = y := ⟨_, rfl⟩
            rw [hy] at hc2 hst
            have cV2 := fun w => S3.refValid_any (ba y) w
            rw [show (ba y).data.toList = y from rfl] at cV2
            have hin2 : ∀ q, S3.StrsIn (wr.drewN q) (fun b => b < w.heap.size) (some ⟨b2, o2, none⟩) (cs.take k) := fun q => drewN_stays (row_take HT.out k) q
            have cH := fun q => rhas_any (some ⟨b2, o2, none⟩) (cs.take k) c2 (ba y) _ (wr.drewN q) (hin2 q) (by rw [List.length_take]; omega)
            rw [lst_ba, List.length_take, Nat.min_eq_left (Nat.le_of_lt hkl)] at cH
            have hc3 : wr.cell? ⟨b2, o2 + k, none⟩ = some (.string (ba y)) := hc2
            obtain ⟨VV, hVV⟩ : ∃ V, S3.validC y = V := ⟨_, rfl⟩
            obtain ⟨U, hU⟩ : ∃ U, decide (y ∈ cs.take k) = U := ⟨_, rfl⟩
            rw [hVV] at cV2 hst
            rw [hU] at cH
            obtain ⟨Y, hY⟩ : ∃ Y, ba y = Y := ⟨_, rfl⟩
            have hYl : Y.toList = y := by rw [Lib.toList_data, ← hY]; rfl
            rw [hY] at cV2 cH hc3
            have CH := hid cH
            have HST2 := hid hst
            have HU := hid hU
            have HYL := hid hYl
            clear hy hc2 hst hVV hU hY cH hin2 hC hYl
            cases VV with
            | false =>
              have HRR : Hid (R = 10) := hid (by
                have h := HST2.out
                rw [if_pos rfl] at h
                have h2 := HST.out
                rw [h, if_pos (by decide)] at h2
                exact h2)
              clear HST HST2
              go_wp2_with fail
              refine (cV2 _).mono ?_
              rintro e w' ⟨rfl, rfl⟩
              go_wp2
              go_ret
              rw [HRR.out]
              exact ⟨rfl, HKB.out.b⟩
            | true =>
              go_wp2_with fail
              refine (cV2 _).mono ?_
              rintro e w' ⟨rfl, rfl⟩
              have hkc : k ≤ c2 := by omega
              have h11 : y ∈ co :: cs.take k → Hid (R = 11) := fun hm => hid (by
                  have h := HST2.out
                  rw [if_neg (by simp), if_pos hm] at h
                  have h2 := HST.out
                  rw [h, if_pos (by decide)] at h2
                  exact h2)
              by_cases hyc : y = co
              · have HRR := h11 (by rw [hyc]; simp)
                have hbe : (Y.toList == X2.toList) = true := by rw [HYL.out, HX2L.out, hyc]; simp
                clear HST HST2 h11 hyc CH
                go_wp2
                go_quiet (fail)
                go_wp2
                go_ret
                rw [HRR.out]
                exact ⟨rfl, S3.below_drewN HKB.out.b _⟩
              · have hbe : (Y.toList == X2.toList) = false := by rw [HYL.out, HX2L.out]; simpa using hyc
                cases U with
                | true =>
                  have HRR := h11 (List.mem_cons_of_mem _ (by simpa using HU.out))
                  clear HST HST2 h11 hyc
                  go_wp2
                  go_quiet ((go_at_call 45; with_reducible refine Calls.quiet_of_same ((CH.out _).mono fun _ _ h => ⟨h.1, h.2.symm⟩)))
                  go_wp2
                  go_ret
                  rw [HRR.out]
                  exact ⟨rfl, S3.below_drewN HKB.out.b _⟩
                | false =>
                  have HST3 : Hid (S3.checkGo (co :: cs.take (k + 1)) (cs.drop (k + 1)) = E) := hid (by
                    have h := HST2.out
                    rw [if_neg (by simp), if_neg (fun hm => by
                      rcases List.mem_cons.1 hm with h | h
                      · exact hyc h
                      · have := HU.out
                        simp at this
                        exact this h)] at h
                    exact h.symm)
                  clear HST2 h11 hyc
                  go_wp2
                  go_quiet ((go_at_call 45; with_reducible refine Calls.quiet_of_same ((CH.out _).mono fun _ _ h => ⟨h.1, h.2.symm⟩)))
                  go_wp2
                  go_roundw
                  case rel => exact ⟨k + 1, by go_num, by omega, HST3, hid (HKB.out.next (S3.below_drewN (Below.refl _ _) _)), hid (HX1.out.kept (S3.drewN_heap _ _ _)), hid (drewN_stays HT.out _)⟩
                  case measure => simp [RowKit.intOf]; omega
          · have hktz : ¬ (k : Int) < (T1 : Int) := by omega
            have HE0 : Hid (E = 0) := hid (by rw [← hC.out, List.drop_of_length_le (by rw [HT1.out]; omega)]; rfl)
            have cI2 := cI.out wr HKB.out.b
            obtain ⟨IX, hIX⟩ : ∃ I, idxP (wishes l) (st, co) 0 = I := ⟨_, rfl⟩
            rw [hIX] at cI2
            have HIX2 : Hid (IX < (i : Int) ↔ (st, co) ∈ wishes PRE) := hid (by rw [← hIX]; exact HIX.out)
            clear hIX HIX
            go_wp2_with fail
            refine cI2.mono ?_
            rintro e w' ⟨rfl, rfl⟩
            by_cases hm : (st, co) ∈ wishes PRE
            · have hIi : IX < (i : Int) := HIX2.out.2 hm
              have HRR : Hid (R = 11) := hid (by
                have h := HST.out
                rw [HE0.out, if_neg (by simp), if_pos hm] at h
                simpa using h)
              clear HST HE0 hC hm
              go_wp2
              go_ret
              rw [HRR.out]
              exact ⟨rfl, HKB.out.b⟩
            · have hIi : ¬ IX < (i : Int) := fun h => hm (HIX2.out.1 h)
              have HST4 : Hid (R = if (if st ∈ studs PRE then (0 : Int) else if (studs PRE).length = 64 then 2 else 0) ≠ 0 then (if st ∈ studs PRE then (0 : Int) else if (studs PRE).length = 64 then 2 else 0) else goQ (l.take (i + 1)) (l.drop (i + 1))) := hid (by have h := HST.out; rw [HE0.out, if_neg (by simp), if_neg hm] at h; exact h)
              clear HST HE0 hC
              have cS := hid (cHS.out wr HKB.out)
              by_cases hs : st ∈ studs PRE
              · have hsd : decide (st ∈ studs PRE) = true := by simpa using hs
                rw [hsd] at cS
                have HNX : Hid (goQ (l.take (i + 1)) (l.drop (i + 1)) = R) := hid (by
                  have h := HST4.out
                  rw [if_pos hs, if_neg (by simp)] at h
                  exact h.symm)
                have HSE : Hid (studs (l.take (i + 1)) = studs PRE) := hid (by rw [HSN.out]; unfold addS; rw [if_pos hs])
                have hnz : ¬ (64 : Int) < (n : Int) := by omega
                clear HST4 hm hs hsd HSN
                go_wp2_with fail
                refine cS.out.mono ?_
                rintro e w' ⟨rfl, rfl⟩
                go_wp2
                go_roundw
                case rel => exact ⟨i + 1, n, As, cn, rfl, by go_num, by omega, hn64, hid (by rw [HSE.out]; exact hn.out), HNX, hid (by rw [HSE.out]; exact HKB.out)⟩
                case measure => simp [RowKit.intOf]; omega
              · have hsd : decide (st ∈ studs PRE) = false := by simpa using hs
                rw [hsd] at cS
                have HSE : Hid (studs (l.take (i + 1)) = studs PRE ++ [st]) := hid (by rw [HSN.out]; unfold addS; rw [if_neg hs])
                have HFI : Hid (if n = 64 then R = 2 else goQ (l.take (i + 1)) (l.drop (i + 1)) = R) := hid (by
                  have h := HST4.out
                  rw [if_neg hs, hn.out] at h
                  by_cases h6 : n = 64
                  · rw [if_pos h6] at h ⊢
                    simpa using h
                  · rw [if_neg h6] at h ⊢
                    rw [if_neg (by simp)] at h
                    exact h.symm)
                have hrow := HKB.out.r
                unfold S3.StrRow at hrow
                rw [hn.out] at hrow
                have HROW := hid hrow
                have HC3 : Hid (n + 1 ≤ maxLen) := by unfold maxLen; exact hid (by omega)
                have HC4 : Hid ((n + 1) * 16 ≤ 140737488355328) := hid (by omega)
                have HC5 : Hid (∀ o : Obj, w.heap.size ≤ (wr.alloc o).heap.size) := hid (fun o => by have := HKB.out.b.size; simp; omega)
                clear HST4 hm hs hsd HSN hrow
                go_wp2_with fail
                refine cS.out.mono ?_
                rintro e w' ⟨rfl, rfl⟩
                go_wp2_with (at_builtin; refine wpList_append_own _ rfl _ _ 40 rfl w.heap.size 9 i9 (.string ⟨#[]⟩) 1 16 Tryz.underlying40 hi9 hz9 hsi9 hby9 rfl (by decide) _ n (S3.strVals (studs PRE)) rfl (World.ownsRow.alloc HROW.out _) ⟨wr.heap.size, 0, none⟩ 1 1 [.string X1] rfl rfl (one_new _ _ _) (S3.one_str _) HC3.out HC4.out (HC5.out _) ?_)
                intro v' w4 hown' hgrow _
                obtain ⟨A6, c6, rfl⟩ := S3.row_slice hown'
                have hrow6 : S3.StrRow w4 w.heap.size (.slice A6 (n + 1) c6) (studs PRE ++ [st]) := by
                  unfold S3.StrRow
                  rw [S3.strVals_app, List.length_append, hn.out, HXS.out]
                  exact hown'
                have HKF := hid (HKB.out.app (grownBy_of_alloc hgrow) hrow6)
                clear hown' hgrow hrow6 HC3 HC4 HC5 HROW HKB x0 x1 x2 x3 HX1 HT
                by_cases h6 : n = 64
                · have hnz : (64 : Int) < ((n : Int) + 1) := by omega
                  have HRR : Hid (R = 2) := hid (by have h := HFI.out; rw [if_pos h6] at h; exact h)
                  clear h6 HFI
                  go_wp2
                  go_ret
                  rw [HRR.out]
                  exact ⟨rfl, HKF.out.b⟩
                · have hnz : ¬ (64 : Int) < ((n : Int) + 1) := by omega
                  have HNX : Hid (goQ (l.take (i + 1)) (l.drop (i + 1)) = R) := hid (by have h := HFI.out; rw [if_neg h6] at h; exact h)
                  clear HFI
                  go_wp2
                  go_roundw
                  case rel => exact ⟨i + 1, n + 1, A6, c6, rfl, by go_num, by omega, by omega, hid (by rw [HSE.out, List.length_append, hn.out]; rfl), HNX, hid (by rw [HSE.out]; exact HKF.out)⟩
                  case measure => simp [RowKit.intOf]; omega
      · have hltz : ¬ (i : Int) < (l.length : Int) := by omega
        have hn0 : Hid (R = 0) := hid (by rw [← hE.out, List.drop_of_length_le (by omega)]; rfl)
        have HKB := hid hK.out.b
        clear hK
        go_wp2
        go_ret
        rw [hn0.out]
        exact ⟨rfl, HKB.out⟩
end Go.Proofs.YtlgmanbilaminaaGreatDoor.S12
