/-
  What the reference's Format returns, for any records and any dialect. Conditions: the records lie in memory; their text has at most 2^46 bytes.
-/
import Derived.Test.YtcpkefjijinhiaaDoorFormM
import Derived.StillTailTactics
import Derived.Deep.DeepCutAuto
import Derived.Deep.CutBlock
set_option linter.unusedVariables false
namespace Go.Proofs.YtcpkefjijinhiaaDoor
open Go Go.Proofs Go.RowKit Go.Lib

/-- What Format hands back. -/
def FormatOut (W : World) (R : Str) (err : Int) (e : Ending) (w' : World) : Prop :=
  e = .returned (.tuple #[.string ⟨R.toArray⟩, .int .i64 err]) ∧ Below W.heap.size W w'

theorem row_dr {w : World} {B e z n : Nat} {v : Value} {xs : List Value} (h : w.ownsRow B e z v n xs) : ∀ q, (w.drewN q).ownsRow B e z v n xs
  | 0 => h
  | q + 1 => World.ownsRow.drew (row_dr h q)
theorem row_slice {w : World} {B e z n : Nat} {v : Value} {xs : List Value} (h : w.ownsRow B e z v n xs) : ∃ A c, v = .slice A n c := by
  rcases h.2 with ⟨hv, h0⟩ | ⟨g, cap, cur, hv, _⟩
  · exact ⟨none, 0, by rw [hv, h0]⟩
  · exact ⟨_, cap, hv⟩
theorem hid_iff (p : Prop) : Hid p ↔ p := ⟨Hid.out, hid⟩
theorem row_below {w w' : World} {B e z n : Nat} {v : Value} {xs : List Value} (h : w.ownsRow B e z v n xs) (hb : Below w.heap.size w w') : w'.ownsRow B e z v n xs := by
  obtain ⟨h1, h2⟩ := h
  refine ⟨h1, ?_⟩
  rcases h2 with h2 | ⟨k, cap, cur, hk, hg, hh, r⟩
  · exact .inl h2
  · exact .inr ⟨k, cap, cur, hk, hg, (hb.block k (Array.getElem?_eq_some_iff.1 hh).1).trans hh, r⟩
set_option maxHeartbeats 8000000 in
set_option maxRecDepth 100000 in
theorem refFormat_any (A : Option Addr) (ls : List (List Str)) (c : Nat) (D Q : UInt8) (w : World) (h : RowsIn w (fun b => b < w.heap.size) A ls) (hw : wgtRows ls ≤ 70368744177664) (hl63 : ls.length ≤ 9223372036854775807) :
    Calls Tryd.prog 18 #[.slice A ls.length c, dialV D Q] w (FormatOut w (fmtM D Q ls).1 (fmtM D Q ls).2) := by
  obtain ⟨ANS, hANS⟩ : ∃ ANS, fmtM D Q ls = ANS := ⟨_, rfl⟩
  rw [hANS]
  obtain ⟨R, err⟩ := ANS
  unfold fmtM at hANS
  obtain ⟨w1, hw1⟩ : ∃ w1, w.alloc (.cells #[.int .u8 (D.toNat : Int), .int .u8 (Q.toNat : Int)] 23) = w1 := ⟨_, rfl⟩
  have cV := refValid_any D Q w1
  have hb1 : Below w.heap.size w w1 := by rw [← hw1]; exact (Below.refl _ w).alloc (Nat.le_refl _) _
  have hsz1 : w.heap.size < w1.heap.size := by rw [← hw1]; simp
  have hd0 : w1.cell? ⟨w.heap.size, 0, none⟩ = some (.int .u8 (D.toNat : Int)) := by rw [← hw1]; simp
  have hd1 : w1.cell? ⟨w.heap.size, 1, none⟩ = some (.int .u8 (Q.toNat : Int)) := by rw [← hw1]; simp
  have hrow : RowsIn w1 (fun b => b < w.heap.size) A ls := h.kept fun b hb => hb1.block b hb
  obtain ⟨V, hV⟩ : ∃ V, validB D Q = V := ⟨_, rfl⟩
  rw [hV] at cV hANS
  have CV := hid cV
  have HROW := hid hrow
  have HB1 := hid hb1
  have HANS := hid hANS
  clear cV hrow hb1 hANS h hV
  unfold dialV at *
  cases V with
  | false =>
    have he : R = [] ∧ err = 1 := by have := HANS.out; simp at this; exact ⟨this.1, by first | exact this.2 | exact this.2.symm⟩
    obtain ⟨rfl, rfl⟩ := he
    go_enter Tryd.func18, Tryd.ntmps18
    go_wp2_with fail
    refine CV.out.mono ?_
    rintro e w2 ⟨rfl, hb2⟩
    go_wp2
    go_ret2
    exact ⟨rfl, HB1.out.trans (hb2.mono (by omega))⟩
  | true =>
    by_cases hbig : 400 < ls.length
    · have hbz : (400 : Int) < (ls.length : Int) := by omega
      have he : R = [] ∧ err = 2 := by have := HANS.out; simp [hbig] at this; exact ⟨this.1, by first | exact this.2 | exact this.2.symm⟩
      obtain ⟨rfl, rfl⟩ := he
      go_enter Tryd.func18, Tryd.ntmps18
      go_wp2_with fail
      refine CV.out.mono ?_
      rintro e w2 ⟨rfl, hb2⟩
      go_wp2
      go_ret2
      exact ⟨rfl, HB1.out.trans (hb2.mono (by omega))⟩
    · have hbz : ¬ (400 : Int) < (ls.length : Int) := by omega
      have hgo : Hid (fmtGo D Q [] ls = (R, err)) := by have := HANS.out; simp [hbig] at this; exact hid this
      clear HANS
      go_enter Tryd.func18, Tryd.ntmps18
      go_wp2_with fail
      refine CV.out.mono ?_
      rintro e w2 ⟨rfl, hb2⟩
      clear CV
      obtain ⟨i5, hi5, hz5, hsi5, hby5⟩ := info_parts infoByte
      go_wp2
      go_loopw [6, 7] (fun ov iv wr => ∃ (out : Str) (i : Nat), iv = .int .i64 (i : Int) ∧ i ≤ ls.length ∧ wr.ownsRow w1.heap.size 5 1 ov out.length (byteCells out) ∧ Below w1.heap.size w1 wr ∧ Hid (fmtGo D Q out (ls.drop i) = (R, err)) ∧ out.length + wgtRows (ls.drop i) ≤ 70368744177664) (fun _ iv _ => ls.length - (RowKit.intOf iv).toNat)
      case atStart => exact ⟨[], 0, rfl, Nat.zero_le _, World.ownsRow_nil _ _ _ _, hb2, hgo, by simpa using hw⟩
      case round =>
        obtain ⟨out, i, rfl, hi, hov, hbw, hg, hwt⟩ := hrel
        by_cases hlt : i < ls.length
        · have hltz : (i : Int) < (ls.length : Int) := by omega
          obtain ⟨b, off, A', c', rfl, hbb, hcell1, hlc, hc63, hstr1⟩ := HROW.out.at_ hlt
          have hcell : wr.cell? ⟨b, off + i, none⟩ = some (.slice A' ls[i].length c') := (hbw.cell (p := ⟨b, off + i, none⟩) (by show b < w1.heap.size; omega)).trans hcell1
          have hfg := fmtGo_drop D Q out ls i hlt
          rw [hg.out] at hfg
          rw [wgtRows_drop ls i hlt] at hwt
          obtain ⟨l, hl⟩ : ∃ l, ls[i] = l := ⟨_, rfl⟩
          rw [hl] at hcell hfg hwt hlc hstr1
          have HOV := hid hov
          have HBW := hid hbw
          have HSTR := hid hstr1
          have HCELL : Hid (w1.cell? ⟨b, off + i, none⟩ = some (.slice A' l.length c')) := by rw [hl] at hcell1; exact hid hcell1
          clear hl hcell1 hov hbw hg hstr1
          by_cases hl0 : l.length = 0
          · have hl0b : ((l.length : Int) == 0) = true := by simp [hl0]
            have he : R = [] ∧ err = 16 := by simp [hl0] at hfg; exact hfg
            obtain ⟨rfl, rfl⟩ := he
            clear hfg
            go_wp2
            go_ret2
            exact ⟨rfl, HB1.out.trans (HBW.out.mono (by omega))⟩
          · have hl0b : ((l.length : Int) == 0) = false := by simpa using hl0
            by_cases hl12 : 12 < l.length
            · have hl12z : (12 : Int) < (l.length : Int) := by omega
              have he : R = [] ∧ err = 2 := by simp [hl0, hl12] at hfg; exact hfg
              obtain ⟨rfl, rfl⟩ := he
              clear hfg
              go_wp2
              go_ret2
              exact ⟨rfl, HB1.out.trans (HBW.out.mono (by omega))⟩
            · have hl12z : ¬ (12 : Int) < (l.length : Int) := by omega
              have HF : Hid (fmtGo D Q (out ++ (rowF D Q (l.length == 1) 0 l ++ [10])) (ls.drop (i + 1)) = (R, err)) := by rw [if_neg hl0, if_neg hl12] at hfg; exact hid hfg.symm
              clear hfg
              obtain ⟨only, honly⟩ : ∃ o, (l.length == 1) = o := ⟨_, rfl⟩
              have honlyz : ((l.length : Int) == 1) = only := by rw [← honly]; exact int_beq l.length 1
              rw [honly] at HF
              obtain ⟨rest, hrest⟩ : ∃ r, ls.drop (i + 1) = r := ⟨_, rfl⟩
              rw [hrest] at HF hwt
              have HREST := hid hrest
              clear hrest honly
              go_wp2
              go_loopw [6, 8] (fun ov kv wr2 => ∃ (out2 : Str) (k : Nat), kv = .int .i64 (k : Int) ∧ k ≤ l.length ∧ wr2.ownsRow w1.heap.size 5 1 ov out2.length (byteCells out2) ∧ Below w1.heap.size w1 wr2 ∧ Hid (fmtGo D Q (out2 ++ (rowF D Q only k (l.drop k) ++ [10])) rest = (R, err)) ∧ out2.length + wgtRow (l.drop k) + wgtRows rest ≤ 70368744177664) (fun _ kv _ => l.length - (RowKit.intOf kv).toNat)
              case atStart => exact ⟨out, 0, rfl, Nat.zero_le _, HOV.out, HBW.out, hid HF.out, by simpa [Nat.add_assoc] using hwt⟩
              case round =>
                obtain ⟨out2, k, rfl, hk, hov2, hbw2, hg2, hwt2⟩ := hrel
                clear HOV HBW HF hwt
                have hcellw : wr.cell? ⟨b, off + i, none⟩ = some (.slice A' l.length c') := (hbw2.cell (p := ⟨b, off + i, none⟩) (by show b < w1.heap.size; omega)).trans HCELL.out
                by_cases hkl : k < l.length
                · have hklz : (k : Int) < (l.length : Int) := by omega
                  obtain ⟨b2, off2, rfl, hbb2, hcs1⟩ := HSTR.out.at_ hkl
                  obtain ⟨sk, hsk⟩ : ∃ sk, l[k] = sk := ⟨_, rfl⟩
                  have hrd := rowF_drop D Q only l k hkl
                  have hwd := wgtRow_drop l k hkl
                  rw [hsk] at hcs1 hrd hwd
                  obtain ⟨S, hS⟩ : ∃ S : ByteArray, (⟨sk.toArray⟩ : ByteArray) = S := ⟨_, rfl⟩
                  have hSl : S.data.toList = sk := by rw [← hS]
                  have hSz : S.size = sk.length := by rw [Lib.size_eq, hSl]
                  have hcs : wr.cell? ⟨b2, off2 + k, none⟩ = some (.string S) := by rw [← hS]; exact (hbw2.cell (p := ⟨b2, off2 + k, none⟩) (by show b2 < w1.heap.size; omega)).trans hcs1
                  have hdd0 : wr.cell? ⟨w.heap.size, 0, none⟩ = some (.int .u8 (D.toNat : Int)) := (hbw2.cell (p := ⟨w.heap.size, 0, none⟩) (by show w.heap.size < w1.heap.size; omega)).trans hd0
                  rw [hrd] at hg2
                  rw [hwd] at hwt2
                  have hsz46 : sk.length ≤ 70368744177664 := by unfold wgtF at hwt2; omega
                  obtain ⟨tl, htl⟩ : ∃ t, rowF D Q only (k + 1) (l.drop (k + 1)) = t := ⟨_, rfl⟩
                  obtain ⟨wt, hwt⟩ : ∃ t, wgtRow (l.drop (k + 1)) + wgtRows rest = t := ⟨_, rfl⟩
                  rw [htl] at hg2
                  have hwt3 : out2.length + wgtF sk + wt ≤ 70368744177664 := by omega
                  have hseplen := sep_len D k
                  have HS := hid hS
                  have HSL := hid hSl
                  have HSK := hid hsk
                  have HG2 := hid hg2.out
                  have HTL := hid htl
                  have HWT := hid hwt
                  have HOV2 := hid hov2
                  have HBW2 := hid hbw2
                  have HCS1 : Hid (w1.cell? ⟨b2, off2 + k, none⟩ = some (.string S)) := by rw [hS.symm]; exact hid hcs1
                  unfold wgtF at hwt3
                  clear hcs1 hrd hwd hS hSl hsk hg2 htl hwt hov2 hbw2 hwt2
                  go_upto_if 53 with fail
                  go_cut [6] (fun v wx => wx.ownsRow w1.heap.size 5 1 v (out2 ++ sepF D k).length (byteCells (out2 ++ sepF D k)) ∧ Below w1.heap.size w1 wx)
                  case first =>
                    by_cases hk0 : 0 < k
                    · have hk0z : (0 : Int) < (k : Int) := by omega
                      have hs1 : sepF D k = [D] := if_neg (by omega)
                      have HC3 : Hid (out2.length + 1 ≤ maxLen) := by unfold maxLen; exact hid (by omega)
                      have HC4 : Hid ((out2.length + 1) * 1 ≤ 140737488355328) := hid (by omega)
                      have hszW : w1.heap.size ≤ wr.heap.size := HBW2.out.size
                      have HC5 : Hid (∀ o : Obj, w1.heap.size ≤ (wr.alloc o).heap.size) := hid (fun o => by simp; omega)
                      go_wp2_with (at_builtin; refine wpList_append_own _ rfl _ _ 61 rfl w1.heap.size 5 i5 (.int .u8 0) 1 1 Tryd.underlying61 hi5 hz5 hsi5 hby5 rfl (by decide) _ out2.length (byteCells out2) rfl (World.ownsRow.alloc HOV2.out _) ⟨wr.heap.size, 0, none⟩ 1 1 [.int .u8 ((D).toNat : Int)] rfl rfl (one_new _ _ _) (one_one _ _) HC3.out HC4.out (HC5.out _) ?_)
                      intro v' wq hown' hgrow _
                      have hg' := grownBy_of_alloc hgrow
                      have hb' : Below w1.heap.size w1 wq := HBW2.out.grown hg' hszW (fun k hk => (World.ownsRow.lt HOV2.out k hk).1)
                      have hov' : wq.ownsRow w1.heap.size 5 1 v' (out2 ++ [D]).length (byteCells (out2 ++ [D])) := by rw [byteCells_app, List.length_append]; exact hown'
                      go_wp2
                      go_meet
                      rw [hs1]
                      exact ⟨hov', hb'⟩
                    · have hk0z : ¬ (0 : Int) < (k : Int) := by omega
                      have hs1 : sepF D k = [] := if_pos (by omega)
                      go_wp2
                      go_meet
                      rw [hs1, List.append_nil]
                      exact ⟨HOV2.out, HBW2.out⟩
                  case rest =>
                    obtain ⟨hov3, hbw3⟩ := hcut
                    obtain ⟨out3, hout3⟩ : ∃ o, out2 ++ sepF D k = o := ⟨_, rfl⟩
                    have hlen3 : out3.length ≤ out2.length + 1 := by rw [← hout3, List.length_append]; omega
                    rw [hout3] at hov3
                    obtain ⟨wd, hwd⟩ : ∃ wd, wc.drew = wd := ⟨_, rfl⟩
                    have hovd := World.ownsRow.drew hov3
                    have hbwd := hbw3.drew
                    rw [hwd] at hovd hbwd
                    have hcd0 : wd.cell? ⟨w.heap.size, 0, none⟩ = some (.int .u8 (D.toNat : Int)) := (hbwd.cell (p := ⟨w.heap.size, 0, none⟩) (by show w.heap.size < w1.heap.size; omega)).trans hd0
                    have hcd1 : wd.cell? ⟨w.heap.size, 1, none⟩ = some (.int .u8 (Q.toNat : Int)) := (hbwd.cell (p := ⟨w.heap.size, 1, none⟩) (by show w.heap.size < w1.heap.size; omega)).trans hd1
                    have hcel : wd.cell? ⟨b, off + i, none⟩ = some (.slice (some ⟨b2, off2, none⟩) l.length c') := (hbwd.cell (p := ⟨b, off + i, none⟩) (by show b < w1.heap.size; omega)).trans HCELL.out
                    have hk0b : ((k : Int) == 0) = (k == 0) := int_beq k 0
                    obtain ⟨qq, hqq⟩ : ∃ qq, needB D Q sk (k == 0) only = qq := ⟨_, rfl⟩
                    have cQ := refQuoted_any S D Q (k == 0) only (by omega) wd
                    rw [HSL.out, hqq] at cQ
                    unfold dialV at cQ
                    have CQ := hid cQ
                    have HQQ := hid hqq
                    have HOUT3 := hid hout3
                    have HOVD := hid hovd
                    have HBWD := hid hbwd
                    clear cQ hqq hout3 hov3 hbw3 hovd hbwd HOV2 HBW2 hdd0 hcs hcellw
                    go_upto_region 19 with fail
                    go_still_tail 10, (by kernel_rfl)
                    change wpList _ _ _ _ _ wc.drew
                    rw [hwd]
                    clear hwd
                    go_wp2_with fail
                    refine CQ.out.mono ?_
                    rintro e we ⟨rfl, hbe⟩
                    have hbwe : Below w1.heap.size w1 we := HBWD.out.trans (hbe.mono HBWD.out.size)
                    have hove : we.ownsRow w1.heap.size 5 1 _ out3.length (byteCells out3) := row_below HOVD.out hbe
                    have hce1 : we.cell? ⟨w.heap.size, 1, none⟩ = some (.int .u8 (Q.toNat : Int)) := (hbwe.cell (p := ⟨w.heap.size, 1, none⟩) (by show w.heap.size < w1.heap.size; omega)).trans hd1
                    have hmk := mark_len Q qq
                    have HOVE := hid hove
                    have HBWE := hid hbwe
                    clear hbe hbwe hove hcd0 hcd1 hcel HOVD HBWD CQ
                    go_upto_if 70 with fail
                    go_cut [6] (fun v wx => wx.ownsRow w1.heap.size 5 1 v (out3 ++ markF Q qq).length (byteCells (out3 ++ markF Q qq)) ∧ Below w1.heap.size w1 wx)
                    case first =>
                      cases qq with
                      | true =>
                        have HC3 : Hid (out3.length + 1 ≤ maxLen) := by unfold maxLen; exact hid (by omega)
                        have HC4 : Hid ((out3.length + 1) * 1 ≤ 140737488355328) := hid (by omega)
                        have hszW : w1.heap.size ≤ we.heap.size := HBWE.out.size
                        have HC5 : Hid (∀ o : Obj, w1.heap.size ≤ (we.alloc o).heap.size) := hid (fun o => by simp; omega)
                        go_wp2_with (at_builtin; refine wpList_append_own _ rfl _ _ 61 rfl w1.heap.size 5 i5 (.int .u8 0) 1 1 Tryd.underlying61 hi5 hz5 hsi5 hby5 rfl (by decide) _ out3.length (byteCells out3) rfl (World.ownsRow.alloc HOVE.out _) ⟨we.heap.size, 0, none⟩ 1 1 [.int .u8 ((Q).toNat : Int)] rfl rfl (one_new _ _ _) (one_one _ _) HC3.out HC4.out (HC5.out _) ?_)
                        intro v' wq hown' hgrow _
                        have hg' := grownBy_of_alloc hgrow
                        have hb' : Below w1.heap.size w1 wq := HBWE.out.grown hg' hszW (fun k hk => (World.ownsRow.lt HOVE.out k hk).1)
                        have hov' : wq.ownsRow w1.heap.size 5 1 v' (out3 ++ [Q]).length (byteCells (out3 ++ [Q])) := by rw [byteCells_app, List.length_append]; exact hown'
                        go_wp2
                        go_meet
                        exact ⟨hov', hb'⟩
                      | false =>
                        go_wp2
                        go_meet
                        rw [show markF Q false = [] from rfl, List.append_nil]
                        exact ⟨HOVE.out, HBWE.out⟩
                    case rest =>
                      obtain ⟨hov4, hbw4⟩ := hcut
                      obtain ⟨out4, hout4⟩ : ∃ o, out3 ++ markF Q qq = o := ⟨_, rfl⟩
                      have hlen4 : out4.length ≤ out3.length + 1 := by rw [← hout4, List.length_append]; omega
                      rw [hout4] at hov4
                      have HG4 : Hid (fmtGo D Q ((out4 ++ (escF Q qq sk ++ markF Q qq)) ++ (tl ++ [10])) rest = (R, err)) := by
                        have h := HG2.out
                        unfold fieldF at h
                        rw [HQQ.out] at h
                        rw [← hout4, ← HOUT3.out]
                        simpa [List.append_assoc] using hid h
                      have hwt4 : out4.length + 2 * sk.length + 1 + wt ≤ 70368744177664 := by omega
                      have HOV4 := hid hov4
                      have HBW4 := hid hbw4
                      clear hov4 hbw4 hout4 hce1 HOVE HBWE HG2 HOUT3
                      go_wp2
                      go_loopw [6, 11] (fun ov jv wr3 => ∃ (out5 : Str) (j : Nat), jv = .int .i64 (j : Int) ∧ j ≤ sk.length ∧ wr3.ownsRow w1.heap.size 5 1 ov out5.length (byteCells out5) ∧ Below w1.heap.size w1 wr3 ∧ Hid (fmtGo D Q ((out5 ++ (escF Q qq (sk.drop j) ++ markF Q qq)) ++ (tl ++ [10])) rest = (R, err)) ∧ out5.length + 2 * (sk.length - j) + 1 + wt ≤ 70368744177664) (fun _ jv _ => sk.length - (RowKit.intOf jv).toNat)
                      case atStart => exact ⟨out4, 0, rfl, Nat.zero_le _, HOV4.out, HBW4.out, hid HG4.out, by omega⟩
                      case round =>
                        obtain ⟨out5, j, rfl, hj, hov5, hbw5, hg5, hwt5⟩ := hrel
                        clear HOV4 HBW4 HG4
                        by_cases hjl : j < sk.length
                        · have hjlz : (j : Int) < (sk.length : Int) := by omega
                          have hjS : j < S.size := by omega
                          have hjSz : (j : Int) < (S.size : Int) := by omega
                          obtain ⟨x, hx⟩ : ∃ x, S[j]'hjS = x := ⟨_, rfl⟩
                          have hdx : sk.drop j = x :: sk.drop (j + 1) := by
                            rw [List.drop_eq_getElem_cons hjl]
                            congr 1
                            rw [← hx]
                            have := HSL.out
                            subst this
                            rfl
                          have hg6 := hg5.out
                          rw [hdx, escF_cons] at hg6
                          have HG6 := hid hg6
                          have HOV5 := hid hov5
                          have HBW5 := hid hbw5
                          clear hdx hg6 hg5 hov5 hbw5
                          have HC3 : Hid (out5.length + 1 ≤ maxLen) := by unfold maxLen; exact hid (by omega)
                          have HC4 : Hid ((out5.length + 1) * 1 ≤ 140737488355328) := hid (by omega)
                          have hszW : w1.heap.size ≤ wr.heap.size := HBW5.out.size
                          have HC5 : Hid (∀ o : Obj, w1.heap.size ≤ (wr.alloc o).heap.size) := hid (fun o => by simp; omega)
                          go_wp2_with (at_builtin; refine wpList_append_own _ rfl _ _ 61 rfl w1.heap.size 5 i5 (.int .u8 0) 1 1 Tryd.underlying61 hi5 hz5 hsi5 hby5 rfl (by decide) _ out5.length (byteCells out5) rfl (World.ownsRow.alloc HOV5.out _) ⟨wr.heap.size, 0, none⟩ 1 1 [.int .u8 ((x).toNat : Int)] rfl rfl (one_new _ _ _) (one_one _ _) HC3.out HC4.out (HC5.out _) ?_)
                          intro v' wq hown' hgrow _
                          have hg' := grownBy_of_alloc hgrow
                          have hb' : Below w1.heap.size w1 wq := HBW5.out.grown hg' hszW (fun k hk => (World.ownsRow.lt HOV5.out k hk).1)
                          have hov' : wq.ownsRow w1.heap.size 5 1 v' (out5 ++ [x]).length (byteCells (out5 ++ [x])) := by rw [byteCells_app, List.length_append]; exact hown'
                          have hcq1 : wq.cell? ⟨w.heap.size, 1, none⟩ = some (.int .u8 (Q.toNat : Int)) := (hb'.cell (p := ⟨w.heap.size, 1, none⟩) (by show w.heap.size < w1.heap.size; omega)).trans hd1
                          obtain ⟨out6, hout6⟩ : ∃ o, out5 ++ [x] = o := ⟨_, rfl⟩
                          have hlen6 : out6.length ≤ out5.length + 1 := by rw [← hout6, List.length_append]; exact Nat.le_refl _
                          rw [hout6] at hov'
                          have HOUT6 := hid hout6
                          have HOV6 := hid hov'
                          have HBW6 := hid hb'
                          clear hout6 hov' hb' HOV5 HBW5 hown' hgrow hg' HC3 HC4 HC5
                          have hqcase : (qq = true ∧ ((x.toNat : Int) == (Q.toNat : Int)) = true ∧ Hid ((qq && x.toNat == Q.toNat) = true)) ∨ (((qq = true ∧ ((x.toNat : Int) == (Q.toNat : Int)) = false) ∨ qq = false) ∧ Hid ((qq && x.toNat == Q.toNat) = false)) := by
                            rw [int_beq]
                            cases qq <;> cases (x.toNat == Q.toNat) <;> simp [hid_iff]
                          rcases hqcase with ⟨rfl, hxq, hcond⟩ | ⟨hqc, hcond⟩
                          · go_wp2
                            go_quiet (fail)
                            have hov7 := row_dr HOV6.out nq
                            have hbw7 := below_dr HBW6.out nq
                            generalize wq.drewN nq = wz at hov7 hbw7 ⊢
                            have hcz1 : wz.cell? ⟨w.heap.size, 1, none⟩ = some (.int .u8 (Q.toNat : Int)) := (hbw7.cell (p := ⟨w.heap.size, 1, none⟩) (by show w.heap.size < w1.heap.size; omega)).trans hd1
                            have HOV7 := hid hov7
                            have HBW7 := hid hbw7
                            clear hov7 hbw7 HOV6 HBW6 hcq1 hxq hszW
                            have HC3 : Hid (out6.length + 1 ≤ maxLen) := by unfold maxLen; exact hid (by omega)
                            have HC4 : Hid ((out6.length + 1) * 1 ≤ 140737488355328) := hid (by omega)
                            have hszW : w1.heap.size ≤ wz.heap.size := HBW7.out.size
                            have HC5 : Hid (∀ o : Obj, w1.heap.size ≤ (wz.alloc o).heap.size) := hid (fun o => by simp; omega)
                            go_wp2_with (at_builtin; refine wpList_append_own _ rfl _ _ 61 rfl w1.heap.size 5 i5 (.int .u8 0) 1 1 Tryd.underlying61 hi5 hz5 hsi5 hby5 rfl (by decide) _ out6.length (byteCells out6) rfl (World.ownsRow.alloc HOV7.out _) ⟨wz.heap.size, 0, none⟩ 1 1 [.int .u8 ((Q).toNat : Int)] rfl rfl (one_new _ _ _) (one_one _ _) HC3.out HC4.out (HC5.out _) ?_)
                            intro v2' wy hown' hgrow _
                            have hg' := grownBy_of_alloc hgrow
                            have hb' : Below w1.heap.size w1 wy := HBW7.out.grown hg' hszW (fun k hk => (World.ownsRow.lt HOV7.out k hk).1)
                            have hov' : wy.ownsRow w1.heap.size 5 1 v2' (out6 ++ [Q]).length (byteCells (out6 ++ [Q])) := by rw [byteCells_app, List.length_append]; exact hown'
                            go_wp2
                            go_roundw
                            case rel =>
                              refine ⟨out6 ++ [Q], j + 1, by go_num, by omega, hov', hb', ?_, by rw [List.length_append]; simp; omega⟩
                              have h := HG6.out
                              rw [if_pos hcond.out] at h
                              rw [← HOUT6.out]
                              simpa [List.append_assoc] using hid h
                            case measure => simp [RowKit.intOf]; omega
                          · have HG7 : Hid (fmtGo D Q (out6 ++ (escF Q qq (sk.drop (j + 1)) ++ markF Q qq) ++ (tl ++ [10])) rest = (R, err)) := by
                              have h := HG6.out
                              rw [hcond.out] at h
                              rw [← HOUT6.out]
                              simpa [List.append_assoc] using hid h
                            clear HG6 hcond
                            rcases hqc with ⟨rfl, hxq⟩ | rfl
                            all_goals
                              go_wp2
                              go_quiet (fail)
                              go_wp2
                              go_roundw
                              case rel => exact ⟨out6, j + 1, by go_num, by omega, row_dr HOV6.out nq, below_dr HBW6.out nq, HG7, by omega⟩
                              case measure => simp [RowKit.intOf]; omega
                        · have hjlz : ¬ (j : Int) < (sk.length : Int) := by omega
                          have hg6 := hg5.out
                          rw [List.drop_of_length_le (by omega), show escF Q qq [] = [] from rfl, List.nil_append] at hg6
                          have HG6 := hid hg6
                          have HOV5 := hid hov5
                          have HBW5 := hid hbw5
                          have hcr1 : wr.cell? ⟨w.heap.size, 1, none⟩ = some (.int .u8 (Q.toNat : Int)) := (hbw5.cell (p := ⟨w.heap.size, 1, none⟩) (by show w.heap.size < w1.heap.size; omega)).trans hd1
                          clear hg6 hg5 hov5 hbw5
                          cases qq with
                          | true =>
                            have HC3 : Hid (out5.length + 1 ≤ maxLen) := by unfold maxLen; exact hid (by omega)
                            have HC4 : Hid ((out5.length + 1) * 1 ≤ 140737488355328) := hid (by omega)
                            have hszW : w1.heap.size ≤ wr.heap.size := HBW5.out.size
                            have HC5 : Hid (∀ o : Obj, w1.heap.size ≤ (wr.alloc o).heap.size) := hid (fun o => by simp; omega)
                            go_wp2_with (at_builtin; refine wpList_append_own _ rfl _ _ 61 rfl w1.heap.size 5 i5 (.int .u8 0) 1 1 Tryd.underlying61 hi5 hz5 hsi5 hby5 rfl (by decide) _ out5.length (byteCells out5) rfl (World.ownsRow.alloc HOV5.out _) ⟨wr.heap.size, 0, none⟩ 1 1 [.int .u8 ((Q).toNat : Int)] rfl rfl (one_new _ _ _) (one_one _ _) HC3.out HC4.out (HC5.out _) ?_)
                            intro v' wq hown' hgrow _
                            have hg' := grownBy_of_alloc hgrow
                            have hb' : Below w1.heap.size w1 wq := HBW5.out.grown hg' hszW (fun k hk => (World.ownsRow.lt HOV5.out k hk).1)
                            have hov' : wq.ownsRow w1.heap.size 5 1 v' (out5 ++ [Q]).length (byteCells (out5 ++ [Q])) := by rw [byteCells_app, List.length_append]; exact hown'
                            go_wp2
                            go_roundw
                            case rel =>
                              refine ⟨out5 ++ [Q], k + 1, by go_num, by omega, hov', hb', ?_, by have := HWT.out; rw [List.length_append]; simp; omega⟩
                              rw [HTL.out]
                              exact HG6
                            case measure => simp [RowKit.intOf]; omega
                          | false =>
                            go_wp2
                            go_roundw
                            case rel =>
                              refine ⟨out5, k + 1, by go_num, by omega, HOV5.out, HBW5.out, ?_, by have := HWT.out; omega⟩
                              rw [HTL.out]
                              have h := HG6.out
                              rw [show markF Q false = [] from rfl, List.append_nil] at h
                              exact hid h
                            case measure => simp [RowKit.intOf]; omega
                · have hklz : ¬ (k : Int) < (l.length : Int) := by omega
                  have hg3 := hg2.out
                  rw [List.drop_of_length_le (by omega), show rowF D Q only k [] = [] from rfl, List.nil_append] at hg3
                  have hwt3 : out2.length + 1 + wgtRows rest ≤ 70368744177664 := by
                    rw [List.drop_of_length_le (by omega)] at hwt2
                    exact hwt2
                  have HG3 := hid hg3
                  have HOV2 := hid hov2
                  have HBW2 := hid hbw2
                  clear hg3 hg2 hov2 hbw2 hwt2
                  have HC3 : Hid (out2.length + 1 ≤ maxLen) := by unfold maxLen; exact hid (by omega)
                  have HC4 : Hid ((out2.length + 1) * 1 ≤ 140737488355328) := hid (by omega)
                  have hszW : w1.heap.size ≤ wr.heap.size := HBW2.out.size
                  have HC5 : Hid (∀ o : Obj, w1.heap.size ≤ (wr.alloc o).heap.size) := hid (fun o => by simp; omega)
                  go_wp2_with (at_builtin; refine wpList_append_own _ rfl _ _ 61 rfl w1.heap.size 5 i5 (.int .u8 0) 1 1 Tryd.underlying61 hi5 hz5 hsi5 hby5 rfl (by decide) _ out2.length (byteCells out2) rfl (World.ownsRow.alloc HOV2.out _) ⟨wr.heap.size, 0, none⟩ 1 1 [.int .u8 (((10 : UInt8)).toNat : Int)] rfl rfl (one_new _ _ _) (one_one _ _) HC3.out HC4.out (HC5.out _) ?_)
                  intro v' wq hown' hgrow _
                  have hg' := grownBy_of_alloc hgrow
                  have hb' : Below w1.heap.size w1 wq := HBW2.out.grown hg' hszW (fun k hk => (World.ownsRow.lt HOV2.out k hk).1)
                  have hov' : wq.ownsRow w1.heap.size 5 1 v' (out2 ++ [(10 : UInt8)]).length (byteCells (out2 ++ [(10 : UInt8)])) := by rw [byteCells_app, List.length_append]; exact hown'
                  go_wp2
                  go_roundw
                  case rel =>
                    refine ⟨out2 ++ [10], i + 1, by go_num, by omega, hov', hb', ?_, ?_⟩
                    · rw [HREST.out]
                      exact HG3
                    · rw [HREST.out, List.length_append]
                      simp
                      omega
                  case measure => simp [RowKit.intOf]; omega
        · have hltz : ¬ (i : Int) < (ls.length : Int) := by omega
          have hg3 := hg.out
          rw [List.drop_of_length_le (by omega)] at hg3
          obtain ⟨Ao, co, rfl⟩ := row_slice hov
          have hcv := row_string (P := Tryd.prog) hov 61 5 9 Tryd.underlying61 Tryd.underlying5 Tryd.underlying9
          by_cases hb6 : 65536 < out.length
          · have hb6z : (65536 : Int) < (out.length : Int) := by omega
            have he : R = [] ∧ err = 2 := by simp [fmtGo, hb6] at hg3; exact ⟨hg3.1, by first | exact hg3.2 | exact hg3.2.symm⟩
            obtain ⟨rfl, rfl⟩ := he
            clear hg3
            go_wp2
            go_ret2
            exact ⟨rfl, HB1.out.trans (hbw.mono (by omega))⟩
          · have hb6z : ¬ (65536 : Int) < (out.length : Int) := by omega
            have he : out = R ∧ err = 0 := by simp [fmtGo, hb6] at hg3; exact ⟨hg3.1, by first | exact hg3.2 | exact hg3.2.symm⟩
            obtain ⟨rfl, rfl⟩ := he
            clear hg3
            go_wp2
            go_ret2
            exact ⟨rfl, HB1.out.trans (hbw.mono (by omega))⟩
end Go.Proofs.YtcpkefjijinhiaaDoor
