/-
  The walk of the statement RecordsReturns: it returns true. Conditions: the numbers lie in memory; the first variable of the package holds a number; dialect's contract is a hypothesis.
-/
import Derived.Test.YtcpkefjijinhiaaDoorDialP
import Derived.Test.YtcpkefjijinhiaaDoorRT
import Derived.Test.YtcpkefjijinhiaaDoorFields2
import Derived.Test.YtcpkefjijinhiaaDoorAwake
import Derived.Test.YtcpkefjijinhiaaDoorSameRecs
set_option linter.unusedVariables false
namespace Go.Proofs.YtcpkefjijinhiaaDoor
open Go Go.Proofs Go.RowKit Go.Lib

/-- What is kept while the statement's loops run. -/
structure RS (w : World) (B1 B2 : Nat) (A : Option Addr) (c : Nat) (ls : List (List Str)) (mv : Value) (rs : List Rec) (wr : World) : Prop where
  rows : RowsIn wr (fun b => b < wr.heap.size) A ls
  recs : RecRow wr B2 mv rs
  below : Below w.heap.size w wr
theorem RS.under {w wr wr' : World} {B1 B2 : Nat} {A : Option Addr} {c : Nat} {ls : List (List Str)} {mv : Value} {rs : List Rec} (h : RS w B1 B2 A c ls mv rs wr) (hb : Below wr.heap.size wr wr') : RS w B1 B2 A c ls mv rs wr' :=
  ⟨(h.rows.kept fun b hb' => hb.block b hb').imp (fun x => x) fun ⟨b, off, h1, h2, h3⟩ => ⟨b, off, h1, Nat.lt_of_lt_of_le h2 hb.size, fun j l hj => by
      obtain ⟨A', c', k1, k2, k3, k4⟩ := h3 j l hj
      exact ⟨A', c', k1, k2, k3, k4.mono fun b hb' => Nat.lt_of_lt_of_le hb' hb.size⟩⟩,
    h.recs.under hb, h.below.trans (hb.mono h.below.size)⟩
theorem RowsIn.wide {w : World} {P P' : Nat → Prop} {A : Option Addr} {ls : List (List Str)} (h : RowsIn w P A ls) (hP : ∀ b, P b → P' b) : RowsIn w P' A ls :=
  h.imp (fun x => x) fun ⟨b, off, h1, h2, h3⟩ => ⟨b, off, h1, hP b h2, fun j l hj => by
    obtain ⟨A', c', k1, k2, k3, k4⟩ := h3 j l hj
    exact ⟨A', c', k1, k2, k3, k4.mono hP⟩⟩
theorem text_take (fs : List Fld) (k : Nat) (h : k < fs.length) : (fs.map Fld.text).take (k + 1) = (fs.map Fld.text).take k ++ [fs[k].text] := by
  rw [List.take_succ_eq_append_getElem (by simpa using h)]
  simp

set_option maxHeartbeats 8000000 in
set_option maxRecDepth 100000 in
theorem returns_any (cD : DialAll) (m : Int) (A : Option Addr) (L : List Int) (c : Nat) (w : World) (hI : IntsIn w w.heap.size A L) (hm : w.cell? ⟨0, 0, none⟩ = some (.int .i64 m)) (hw0 : 0 < w.heap.size) :
    Calls Tryd.prog 6 #[.slice A L.length c] w fun e w' => e = .returned (.bool true) ∧ Below w.heap.size w w' := by
  have cL := light_any A L.length c
  have hA := fun (w' : World) (hb : Below w.heap.size w w') => awake_any m w' ((hb.cell (p := ⟨0, 0, none⟩) hw0).trans hm) (Nat.lt_of_lt_of_le hw0 hb.size)
  have HA := hid hA
  have HM := hid hm
  clear hA hm
  by_cases hl : L.length ≤ 400
  · rw [decide_eq_true hl] at cL
    have cR := roll_any A L c hl w hI
    obtain ⟨g, hg⟩ : ∃ g, w.heap.size = g := ⟨_, rfl⟩
    have CR := hid cR
    have HI := hid hI
    clear cR hI
    go_enter Tryd.func6, Tryd.ntmps6
    go_wp2_with fail
    refine (cL _).mono ?_
    rintro e w' ⟨rfl, rfl⟩
    go_wp2_with fail
    refine CR.out.mono ?_
    rintro e w1 ⟨rfl, hd1, hb1⟩
    rw [hg] at hd1 ⊢
    have hgle : w.heap.size ≤ g := by omega
    clear hg
    have hsz1 := hb1.size
    have hB1 := hid hb1
    have cF := fieldsT_any g c 0 A L w1 hd1
    have CF := hid cF
    have hg1 := hd1.lt
    clear hd1 cF hb1 cL
    go_wp2_with fail
    refine CF.out.mono ?_
    rintro e w2 ⟨⟨v, vs, ls, rfl, hov, hsr, hl5, hgood⟩, ⟨k2, hd2⟩, hP2⟩
    obtain ⟨Av, cv, rfl, hcv1, hcv2, hrows⟩ := rows_rowsIn hov hsr
    have hrows2 : RowsIn w2 (fun b => w1.heap.size ≤ b ∧ b < w2.heap.size) Av ls := hrows
    have HR2 := hid hrows2
    have HP2 := hid hP2
    have HG := hid hgood
    have hsz2 := hP2.size
    have cX := cD g c k2 A L w2 hd2
    have CX := hid cX
    clear hov hsr hrows hrows2 hP2 hd2 cX hgood CF cD
    go_wp2_with fail
    refine CX.out.mono ?_
    rintro e w3 ⟨⟨D, Q, rfl, hv⟩, ⟨k3, hd3⟩, hP3⟩
    have hsz3 := hP3.size
    have hrows3 : RowsIn w3 (fun b => b < w3.heap.size) Av ls := (HR2.out.kept (w' := w3) fun b hb => hP3.block b hb.2 (by omega)).wide fun b hb => by have := hb.2; omega
    have hb3 : Below w.heap.size w w3 := hB1.out.trans ((HP2.out.toBelow (B' := w.heap.size) hsz1 (by omega)).trans (hP3.toBelow (B' := w.heap.size) (by omega) (by omega)))
    have hba : Below w3.heap.size w3 (w3.alloc (.cells #[.int .u8 D.toNat, .int .u8 Q.toNat] 23)) := (Below.refl _ w3).alloc (Nat.le_refl _) _
    have hza : (w3.alloc (.cells #[.int .u8 D.toNat, .int .u8 Q.toNat] 23)).heap[w3.heap.size]? = some (.cells #[.int .u8 D.toNat, .int .u8 Q.toNat] 23 (0, 0)) := heap_alloc_new w3 _
    have hsa : (w3.alloc (.cells #[.int .u8 D.toNat, .int .u8 Q.toNat] 23)).heap.size = w3.heap.size + 1 := by simp
    have HR3 := hid hrows3
    have HB3 := hid hb3
    have HBA := hid hba
    have HZA := hid hza
    have HV := hid hv
    unfold dialV
    clear hP3 hd3 hrows3 hb3 hba hza hv HR2 HP2 CX hB1 CR
    go_wp2_with fail
    have HBX := hid (HB3.out.trans (HBA.out.mono HB3.out.size))
    have hmX := (HBX.out.cell (p := ⟨0, 0, none⟩) hw0).trans HM.out
    have hrowsX : RowsIn (w3.alloc (.cells #[.int .u8 D.toNat, .int .u8 Q.toNat] 23)) (fun b => b < (w3.alloc (.cells #[.int .u8 D.toNat, .int .u8 Q.toNat] 23)).heap.size) Av ls :=
      (HR3.out.kept fun b hb => HBA.out.block b hb).wide fun b hb => by rw [hsa]; omega
    have HRX := hid hrowsX
    have hwX : 0 < (w3.alloc (.cells #[.int .u8 D.toNat, .int .u8 Q.toNat] 23)).heap.size := by rw [hsa]; omega
    generalize hwx : w3.alloc (.cells #[.int .u8 D.toNat, .int .u8 Q.toNat] 23) = wX at HBX hmX hrowsX HRX HZA hsa hwX ⊢
    clear hwx HBA HR3 HB3
    have hgood2 : ∀ l ∈ ls, 1 ≤ l.length ∧ l.length ≤ 12 := fun l hl => by have := HG.out l hl; exact ⟨this.1, by have := this.2.1; omega⟩
    have htame : TameRows ls := fun l hl s hs => by
      have := (HG.out l hl).2.2 s hs
      exact ⟨by omega, this.2⟩
    have htl := text_len D Q ls fun l hl => ⟨(HG.out l hl).2.1, fun s hs => ((HG.out l hl).2.2 s hs).1⟩
    obtain ⟨hfm, rs, hpm, hrs⟩ := parse_fmt D Q HV.out ls hgood2 (by omega) (by omega)
    have hrl : rs.length = ls.length := by rw [← hrs]; simp
    have cFo := codeFormat_any Av ls cv D Q m wX hrowsX (by omega) htame hmX hwX
    rw [hfm] at cFo
    have cPa := codeParse_any ⟨(textR D Q ls).toArray⟩ D Q
    rw [show lst ⟨(textR D Q ls).toArray⟩ = textR D Q ls from rfl, hpm] at cPa
    have hfl : ∀ r ∈ rs, r.fields.length ≤ 12 := fun r hr => by
      have : r.fields.map Fld.text ∈ ls := by rw [← hrs]; exact List.mem_map_of_mem hr
      have := (hgood2 _ this).2
      simpa using this
    have HFL := hid hfl
    have HRS := hid hrs
    have HPA := hid cPa
    clear hfm hpm hgood2 htame htl hrowsX hmX hrs cPa hfl
    unfold dialV at cFo HPA
    refine cFo.mono ?_
    rintro e w4 ⟨rfl, hb4⟩
    have hz4 := (hb4.block _ (by rw [hsa]; omega)).trans HZA.out
    have d0 := cell_at hz4 0
    have d1 := cell_at hz4 1
    simp only [List.getElem?_toArray, List.getElem?_cons_zero, List.getElem?_cons_succ] at d0 d1
    have HB4 := hid hb4
    have hsz4 := hb4.size
    clear cFo hb4 hz4
    go_wp2_with fail
    refine (HPA.out _).mono ?_
    rintro e w5 ⟨hb5, v1, v2, rfl, hrec, hprob⟩
    obtain ⟨Am, cm, rfl⟩ := hrec.slice
    obtain ⟨Ap, cp, rfl⟩ := row_slice hprob
    have hBX5 := HB4.out.trans (hb5.mono HB4.out.size)
    have hB05 := HBX.out.trans (hBX5.mono HBX.out.size)
    have hRS5 : RS w 0 w4.heap.size Av cv ls (.slice Am rs.length cm) rs w5 :=
      ⟨(HRX.out.kept fun b hb => hBX5.block b hb).wide fun b hb => Nat.lt_of_lt_of_le hb hBX5.size, hrec, hB05⟩
    have HRS5 := hid hRS5
    have HB05 := hid hB05
    clear hrec hprob hb5 hBX5 hB05 hRS5 HPA HB4 HRX HBX HZA d0 d1
    go_wp2_with fail
    refine (HA.out _ HB05.out).mono ?_
    rintro e w6 ⟨rfl, hb6⟩
    have HRS6 := hid (HRS5.out.under hb6)
    clear hb6 HRS5 HB05 HA
    have hlz : ((rs.length : Int) != (ls.length : Int)) = false := by simp [hrl]
    have hrl' : rs.length ≤ 5 := by omega
    have HRL := hid hrl
    obtain ⟨i9, hi9, hz9, hsi9, hby9⟩ := info_parts infoStr
    clear hrl
    go_wp2
    go_loopw [10, 11, 12] (fun iv _ _ wr => ∃ i : Nat, iv = .int .i64 (i : Int) ∧ i ≤ ls.length ∧ Hid (RS w 0 w4.heap.size Av cv ls (.slice Am rs.length cm) rs wr)) (fun iv _ _ _ => ls.length - (RowKit.intOf iv).toNat)
    case atStart => exact ⟨0, rfl, Nat.zero_le _, HRS6⟩
    case round =>
      obtain ⟨i, rfl, hi, hRS⟩ := hrel
      by_cases hlt : i < ls.length
      · have hltz : (i : Int) < (ls.length : Int) := by omega
        have hir : i < rs.length := by have := HRL.out; omega
        have hirz : (i : Int) < (rs.length : Int) := by omega
        obtain ⟨r, hr⟩ : ∃ r, rs[i]? = some r := ⟨_, List.getElem?_eq_getElem hir⟩
        have hrf : r.fields.length ≤ 12 := HFL.out r (List.mem_of_getElem? hr)
        have hmap : ls[i] = r.fields.map Fld.text := by
          have h1 : (rs.map fun r => r.fields.map Fld.text)[i]? = some (r.fields.map Fld.text) := by rw [List.getElem?_map, hr]; rfl
          rw [HRS.out, List.getElem?_eq_getElem hlt] at h1
          exact Option.some.inj h1
        obtain ⟨rl, fs⟩ := r
        have HR := hid hr
        have HMAP := hid hmap
        dsimp only at hrf
        clear hr hmap HRS6
        obtain ⟨wo, hwo⟩ : ∃ wo, wo = wr := ⟨_, rfl⟩
        subst hwo
        go_wp2
        go_loopw [11, 12] (fun fv kv wr2 => ∃ (acc : List Str) (k : Nat), kv = .int .i64 (k : Int) ∧ k ≤ fs.length ∧ Hid (acc.length = k) ∧ StrRow wr2 wo.heap.size fv acc ∧ Hid (acc = (fs.map Fld.text).take k) ∧ Hid (Below wo.heap.size wo wr2)) (fun _ kv _ => fs.length - (RowKit.intOf kv).toNat)
        case atStart => exact ⟨[], 0, rfl, Nat.zero_le _, hid rfl, World.ownsRow_nil _ _ _ _, hid rfl, hid (Below.refl _ _)⟩
        case round =>
          obtain ⟨acc, k, rfl, hk, hal, hst, hacc, hBe⟩ := hrel
          have hRS2 := hRS.out.under hBe.out
          obtain ⟨g1, cap1, Af, cf, hv, _, a2, hfr⟩ := hRS2.recs.cell HR.out
          injection hv with hA1 _ hc1
          subst hA1 hc1
          dsimp only at a2 hfr
          by_cases hkl : k < fs.length
          · have hklz : (k : Int) < (fs.length : Int) := by omega
            obtain ⟨f, hfk⟩ : ∃ f, fs[k]? = some f := ⟨_, List.getElem?_eq_getElem hkl⟩
            obtain ⟨g2, cap2, hv, b0, _, _⟩ := hfr.cell hfk
            injection hv with hA2 _ hc2
            subst hA2 hc2
            have hnew : Hid (acc ++ [f.text] = (fs.map Fld.text).take (k + 1)) := hid (by
              rw [text_take fs k hkl, ← hacc.out]
              rw [List.getElem?_eq_getElem hkl] at hfk
              rw [Option.some.inj hfk])
            obtain ⟨ft, fc, fq⟩ := f
            dsimp only at b0 hnew
            unfold strV at b0
            have HRS2 := hid hRS2
            have HST := hid hst
            have HC3 : Hid (acc.length + 1 ≤ maxLen) := by unfold maxLen; exact hid (by have := hal.out; omega)
            have HC4 : Hid ((acc.length + 1) * 16 ≤ 140737488355328) := hid (by have := hal.out; omega)
            have HC5 : Hid (∀ o : Obj, wo.heap.size ≤ (wr.alloc o).heap.size) := hid (fun o => by have := hBe.out.size; simp; omega)
            have HHB : Hid (wo.heap.size ≤ wr.heap.size) := hid hBe.out.size
            clear hRS2 hst hfr hfk
            go_wp2_with (at_builtin; refine wpList_append_own _ rfl _ _ 45 rfl wo.heap.size 9 i9 (.string ⟨#[]⟩) 1 16 Tryd.underlying45 hi9 hz9 hsi9 hby9 rfl (by decide) _ acc.length (strVals acc) rfl (World.ownsRow.alloc HST.out _) ⟨wr.heap.size, 0, none⟩ 1 1 [strV ft] rfl rfl (one_new _ _ _) (one_str _) HC3.out HC4.out (HC5.out _) ?_)
            intro v' w7 hown' hgrow _
            have hg' := grownBy_of_alloc hgrow
            have hb27 : Below wo.heap.size wr w7 := (Below.refl _ wr).grown hg' HHB.out (fun k hk => (World.ownsRow.lt HST.out k hk).1)
            go_wp2
            go_roundw
            case rel =>
              refine ⟨acc ++ [ft], k + 1, by go_num, by omega, hid (by rw [List.length_append, hal.out]; rfl), ?_, hnew, hid (hBe.out.trans hb27)⟩
              unfold StrRow
              rw [strVals_app, List.length_append]
              exact hown'
            case measure => simp [RowKit.intOf]; omega
          · have hklz : ¬ (k : Int) < (fs.length : Int) := by omega
            have hfull : Hid (acc = ls[i]) := hid (by rw [HMAP.out, hacc.out, List.take_of_length_le (by simp; omega)])
            obtain ⟨Af, cf, rfl, _, _, hsin⟩ := hst.strsIn
            obtain ⟨bv, ov, A', c', rfl, _, hcell, _, _, hsl⟩ := hRS2.rows.at_ hlt
            have hlen : Hid (ls[i].length = ls[i].length) := hid rfl
            obtain ⟨li, hli⟩ : ∃ li, ls[i] = li := ⟨_, rfl⟩
            rw [hli] at hcell hsl hfull
            have cSS := sameStrings_any Af A' acc li cf c' _ _ wr hsin hsl (by have := hal.out; omega)
            rw [decide_eq_true hfull.out] at cSS
            have HRS2 := hid hRS2
            have CSS := hid cSS
            clear hRS2 hst hsin hsl hfr hfull hlen hli cSS
            go_wp2_with fail
            refine CSS.out.mono ?_
            rintro e w8 ⟨rfl, q, rfl⟩
            go_wp2
            go_roundw
            case rel => exact ⟨i + 1, by go_num, by omega, hid (HRS2.out.under (below_drewNg _ _ _))⟩
            case measure => simp [RowKit.intOf]; omega
      · have hltz : ¬ (i : Int) < (ls.length : Int) := by omega
        go_wp2
        go_ret
        exact ⟨rfl, hRS.out.below⟩
  · rw [decide_eq_false hl] at cL
    go_enter Tryd.func6, Tryd.ntmps6
    go_wp2_with fail
    refine (cL _).mono ?_
    rintro e w' ⟨rfl, rfl⟩
    go_wp2_with fail
    refine (HA.out _ (Below.refl _ _)).mono ?_
    rintro e w' ⟨rfl, hb⟩
    go_wp2
    go_ret
    exact ⟨rfl, hb⟩
end Go.Proofs.YtcpkefjijinhiaaDoor
