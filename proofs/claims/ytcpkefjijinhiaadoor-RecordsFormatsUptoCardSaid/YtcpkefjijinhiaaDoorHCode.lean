/-
  The code's Format of layer 2 returns what fmtM says, for fields of any bytes. Conditions: the records lie in memory; each field has at most 1048576 bytes; the library's MaxLen holds a number.
-/
import Derived.Test.YtcpkefjijinhiaaDoorFCode
import Derived.Test.YtcpkefjijinhiaaDoorHText
set_option linter.unusedVariables false
namespace Go.Proofs.YtcpkefjijinhiaaDoor.W2
open Go Go.Proofs Go.RowKit Go.Lib Go.Proofs.YtcpkefjijinhiaaDoor

/-- Fields that are not too long. -/
def TameRows (ls : List (List Str)) : Prop := ∀ l ∈ ls, ∀ s ∈ l, s.length ≤ 1048576
theorem builder_one (k : Nat) (acc : Str) (c : UInt8) (w : World) (h : IsBuilderF 67 5 k k (byteCells acc) w) (hl : acc.length ≤ 3000000) (hw : k ≤ w.heap.size) :
    Calls Tryd.prog 34 #[.pointer (some ⟨k, 0, none⟩), .int .u8 (c.toNat : Int)] w fun e w' => e = .returned .nilIface ∧ IsBuilderF 67 5 k k (byteCells (acc ++ [c])) w' ∧ Below k w w' := by
  refine (builder_WriteByte k k (byteCells acc) (c.toNat : Int) w h (by rw [byteCells_len]; omega) hw).mono ?_
  rintro e w' ⟨rfl, h1, h2, _⟩
  refine ⟨rfl, .inr ?_, h2⟩
  rw [byteCells_app]
  exact h1
theorem builder_str (k : Nat) (acc t : Str) (w : World) (h : IsBuilderF 67 5 k k (byteCells acc) w) (hl : acc.length + t.length ≤ 3000000) (hw : k ≤ w.heap.size) :
    Calls Tryd.prog 35 #[.pointer (some ⟨k, 0, none⟩), strV t] w fun e w' => (∃ n, e = .returned (.tuple #[.int .i64 n, .nilIface])) ∧ IsBuilderF 67 5 k k (byteCells (acc ++ t)) w' ∧ Below k w w' := by
  refine (builder_WriteString k k (byteCells acc) ⟨t.toArray⟩ w h (by rw [byteCells_len]; show acc.length + t.length ≤ _; omega) hw).mono ?_
  rintro e w' ⟨rfl, h1, h2, _⟩
  refine ⟨⟨_, rfl⟩, .inr ?_, h2⟩
  rw [byteCells_app]
  exact h1

set_option maxHeartbeats 4000000 in
set_option maxRecDepth 100000 in
theorem codeFormat_any (A : Option Addr) (ls : List (List Str)) (c : Nat) (D Q : UInt8) (m : Int) (w : World) (h : RowsIn w (fun b => b < w.heap.size) A ls) (hl63 : ls.length ≤ 9223372036854775807) (hT : TameRows ls) (hm : w.cell? ⟨0, 0, none⟩ = some (.int .i64 m)) (hw0 : 0 < w.heap.size) :
    Calls Tryd.prog 21 #[.slice A ls.length c, dialV D Q] w (FormatOut w (fmtM D Q ls).1 (fmtM D Q ls).2) := by
  have hb0 := Below.alloc (Below.refl w.heap.size w) (Nat.le_refl _) (.cells #[.int .u8 D.toNat, .int .u8 Q.toNat] 23)
  have hs0 : (w.alloc (.cells #[.int .u8 D.toNat, .int .u8 Q.toNat] 23)).heap.size = w.heap.size + 1 := by simp
  have h0 : RowsIn (w.alloc (.cells #[.int .u8 D.toNat, .int .u8 Q.toNat] 23)) (fun b => b < w.heap.size) A ls := h.kept (fun b hb => hb0.block b hb)
  have h0' : RowsIn (w.alloc (.cells #[.int .u8 D.toNat, .int .u8 Q.toNat] 23)) (fun b => b < (w.alloc (.cells #[.int .u8 D.toNat, .int .u8 Q.toNat] 23)).heap.size) A ls :=
    h0.mono (fun b hb => by rw [hs0]; exact Nat.lt_succ_of_lt hb)
  have cK := check_any A ls c D Q _ h0' hl63
  have hvalid : chkM D Q ls = 0 → validB D Q = true ∧ ls.length ≤ 400 ∧ chkGo ls = 0 := by
    unfold chkM
    cases validB D Q with
    | false => simp
    | true =>
      simp only [if_true]
      split
      · simp
      · intro h; exact ⟨by simp, by omega, h⟩
  rw [fmtM_eq]
  have HB0 := hid hb0
  have HROW := hid h
  have HM := hid hm
  have HT := hid hT
  have HV := hid hvalid
  clear hb0 h0 h0' hs0 h hm hT hvalid
  unfold dialV at cK ⊢
  obtain ⟨K, hK⟩ : ∃ K, chkM D Q ls = K := ⟨_, rfl⟩
  rw [hK] at cK HV ⊢
  clear hK
  by_cases hK0 : K = 0
  · subst hK0
    obtain ⟨hv, hl4, hch⟩ := HV.out rfl
    rw [if_pos rfl]
    have hrows := chk_rows ls hch
    have HROWS := hid hrows
    obtain ⟨hDv, hQv⟩ := valid_cases hv
    have HVAL := hid hv
    obtain ⟨TXT, hTXT⟩ : ∃ T, txtGo D Q ls = T := ⟨_, rfl⟩
    rw [hTXT]
    obtain ⟨RES, hRES⟩ : ∃ R : Str × Int, (if 65536 < TXT.length then (([], 2) : Str × Int) else (TXT, 0)) = R := ⟨_, rfl⟩
    rw [hRES]
    have HTXT := hid hTXT
    have HRES := hid hRES
    clear HV hch hrows hv hTXT hRES hDv hQv
    go_enter Tryd.func21, Tryd.ntmps21
    go_wp2_with fail
    refine cK.mono ?_
    rintro e w1 ⟨rfl, hb1⟩
    have hbx : w1.heap[w.heap.size]? = some (.cells #[.int .u8 D.toNat, .int .u8 Q.toNat] 23 (0, 0)) := (hb1.block _ (by simp)).trans (heap_alloc_new w _)
    have hB1 := HB0.out.trans (hb1.mono (by simp))
    have hw1 : w.heap.size < w1.heap.size := Nat.lt_of_lt_of_le (by simp) hb1.size
    have HB1 := hid hB1
    have HBX := hid hbx
    clear hb1 hbx hB1 cK HB0
    go_wp2_with fail
    have hnew : IsBuilderF 67 5 w1.heap.size w1.heap.size (byteCells []) (w1.alloc (.cells #[.pointer none, .slice none 0 0] 67)) :=
      IsBuilderF.of (.inl ⟨Nat.le_refl _, _, heap_alloc_new w1 _, World.ownsRow_nil _ _ _ _, by simp [Value.ownBlock]⟩)
    have hbn : Below w1.heap.size w1 (w1.alloc (.cells #[.pointer none, .slice none 0 0] 67)) := Below.alloc (Below.refl _ _) (Nat.le_refl _) _
    have HNEW := hid hnew
    have HBN := hid hbn
    clear hnew hbn
    go_loopw [19] (fun iv wx => ∃ (i : Nat) (acc : Str), iv = .int .i64 (i : Int) ∧ i ≤ ls.length ∧ Hid (IsBuilderF 67 5 w1.heap.size w1.heap.size (byteCells acc) wx) ∧ Hid (Below w1.heap.size w1 wx) ∧ Hid (acc ++ txtGo D Q (ls.drop i) = TXT) ∧ acc.length ≤ 65537) (fun iv _ => ls.length - (RowKit.intOf iv).toNat)
    case atStart => exact ⟨0, [], rfl, Nat.zero_le _, HNEW, HBN, HTXT, by simp⟩
    case round =>
      obtain ⟨i, acc, rfl, hi, hU, hB, hE, hal⟩ := hrel
      clear HNEW HBN HTXT
      by_cases hlt : i < ls.length
      · have hltz : (i : Int) < (ls.length : Int) := by omega
        obtain ⟨b, off, A', c', rfl, hbb, hcell1, hlc, hc63, hstr1⟩ := HROW.out.at_ hlt
        have hcell : wr.cell? ⟨b, off + i, none⟩ = some (.slice A' ls[i].length c') := (hB.out.cell (p := ⟨b, off + i, none⟩) (by show b < _; omega)).trans ((HB1.out.cell (p := ⟨b, off + i, none⟩) hbb).trans hcell1)
        have htx := txtGo_drop D Q ls i hlt
        have hrow := HROWS.out ls[i] (List.getElem_mem hlt)
        have htame := HT.out ls[i] (List.getElem_mem hlt)
        obtain ⟨l, hl⟩ : ∃ l, ls[i] = l := ⟨_, rfl⟩
        rw [hl] at hcell htx hlc hstr1 hrow htame
        have hE2 := hE.out
        rw [htx] at hE2
        obtain ⟨rest, hrest⟩ : ∃ r, txtGo D Q (ls.drop (i + 1)) = r := ⟨_, rfl⟩
        rw [hrest] at hE2
        have HSTR := hid hstr1
        have HREST := hid hrest
        have HTM := hid htame
        have HE2 : Hid (acc ++ (rowF D Q (l.length == 1) 0 l ++ ([10] ++ rest)) = TXT) := hid (by rw [← hE2]; simp)
        clear hl hcell1 hstr1 htx hE hE2 hrest htame
        go_wp2_with fail
        go_loopw [25] (fun kv wx => ∃ (k : Nat) (acc2 : Str), kv = .int .i64 (k : Int) ∧ k ≤ l.length ∧ Hid (IsBuilderF 67 5 w1.heap.size w1.heap.size (byteCells acc2) wx) ∧ Hid (Below w1.heap.size w1 wx) ∧ Hid (acc2 ++ (rowF D Q (l.length == 1) k (l.drop k) ++ ([10] ++ rest)) = TXT) ∧ acc2.length ≤ 65537 ∧ (k = 0 ∨ acc2.length ≤ 65536)) (fun kv _ => l.length - (RowKit.intOf kv).toNat)
        case atStart => exact ⟨0, acc, rfl, Nat.zero_le _, hU, hB, by simpa using HE2, hal, .inl rfl⟩
        case round =>
          obtain ⟨k, acc2, rfl, hk, hU2, hB2, hE2, hal2, hal3⟩ := hrel
          by_cases hkl : k < l.length
          · have hklz : (k : Int) < (l.length : Int) := by omega
            have hrd := rowF_text D Q (l.length == 1) l k hkl
            have hE3 := hE2.out
            rw [hrd] at hE3
            obtain ⟨sk, hsk⟩ : ∃ s, l[k] = s := ⟨_, rfl⟩
            have htk := HTM.out l[k] (List.getElem_mem hkl)
            have hat : l[k]? = some sk := by rw [List.getElem?_eq_getElem hkl, hsk]
            rw [hsk] at hE3 htk
            have HE3 := hid hE3
            have HTK := hid htk
            have hl2 : k ≤ 12 := by omega
            clear hrd hE3 hE2 hsk htk
            have hbx := (hB2.out.block w.heap.size hw1).trans HBX.out
            have d0 := cell_at hbx 0
            have d1 := cell_at hbx 1
            simp only [List.getElem?_toArray, List.getElem?_cons_zero, List.getElem?_cons_succ] at d0 d1
            clear hbx
            go_upto_if 29 with fail
            go_cut [10] (fun v wx => v = .int .i64 (k : Int) ∧ Hid (IsBuilderF 67 5 w1.heap.size w1.heap.size (byteCells (acc2 ++ sepF D k)) wx) ∧ Hid (Below w1.heap.size w1 wx))
            case first =>
              by_cases hk0 : 0 < k
              · have hk0z : (0 : Int) < (k : Int) := by omega
                have hs1 : sepF D k = [D] := if_neg (by omega)
                go_wp2_with fail
                refine (builder_one w1.heap.size acc2 D wr hU2.out (by omega) hB2.out.size).mono ?_
                rintro e w4 ⟨rfl, hU4, hB4⟩
                go_wp2
                go_meet
                rw [hs1]
                exact ⟨rfl, hid hU4, hid (hB2.out.trans hB4)⟩
              · have hk0z : ¬ (0 : Int) < (k : Int) := by omega
                have hs1 : sepF D k = [] := if_pos (by omega)
                go_wp2
                go_meet
                rw [hs1, List.append_nil]
                exact ⟨rfl, hU2, hB2⟩
            case rest =>
              obtain ⟨rfl, hU3, hB3⟩ := hcut
              have hm3 : wc.cell? ⟨0, 0, none⟩ = some (.int .i64 m) := (hB3.out.cell (p := ⟨0, 0, none⟩) (by show 0 < _; omega)).trans ((HB1.out.cell (p := ⟨0, 0, none⟩) hw0).trans HM.out)
              have hst3 : StrsIn wc (fun b => b < wc.heap.size) A' l :=
                ((HSTR.out.kept (fun b hb => HB1.out.block b hb)).kept (fun b hb => hB3.out.block b (by omega))).mono (fun b hb => by have := hB3.out.size; omega)
              have cF := fieldText_any A' l l.length c' k sk D Q m wc rfl hkl hlc hc63 hst3 hat HVAL.out HTK.out hm3
              have hbx := (hB3.out.block w.heap.size hw1).trans HBX.out
              have d0 := cell_at hbx 0
              have d1 := cell_at hbx 1
              simp only [List.getElem?_toArray, List.getElem?_cons_zero, List.getElem?_cons_succ] at d0 d1
              clear hbx hm3 hst3 hU2 hB2
              have htl : (textF D Q k (l.length == 1) sk).length ≤ 2 * sk.length + 2 := by
                unfold textF
                have h1 := esc_len2 Q (needB D Q sk (k == 0) (l.length == 1)) sk
                have h2 := mark_len Q (needB D Q sk (k == 0) (l.length == 1))
                simp only [List.length_append]
                omega
              have hsl := sep_len D k
              obtain ⟨tx, htx⟩ : ∃ t, textF D Q k (l.length == 1) sk = t := ⟨_, rfl⟩
              rw [htx] at cF htl
              have hsk2 := HTK.out
              have hbig : (acc2 ++ sepF D k).length + tx.length ≤ 3000000 := by rw [List.length_append]; omega
              have HE4 := hid HE3.out
              rw [htx] at HE4
              obtain ⟨acc3, hacc3⟩ : ∃ x, acc2 ++ sepF D k = x := ⟨_, rfl⟩
              rw [hacc3] at hU3 hbig
              have HE5 : Hid (acc3 ++ tx ++ (rowF D Q (l.length == 1) (k + 1) (l.drop (k + 1)) ++ ([10] ++ rest)) = TXT) := hid (by rw [← HE4.out, ← hacc3]; simp)
              clear HE3 HE4 htl hsl hacc3 hsk2 htx hat HTK
              obtain ⟨vt, hvt⟩ : ∃ v, strV tx = v := ⟨_, rfl⟩
              rw [hvt] at cF
              have HVT := hid hvt
              clear hvt
              go_wp2_with fail
              refine cF.mono ?_
              rintro e w4 ⟨rfl, hb4⟩
              have hU4 := builder_under hU3.out (hb4)
              have hB4 := hB3.out.trans (hb4.mono hB3.out.size)
              clear cF hU3 hB3 hb4
              go_wp2_with fail
              have cS := builder_str w1.heap.size acc3 tx w4 hU4 hbig hB4.size
              rw [HVT.out] at cS
              refine cS.mono ?_
              rintro e w5 ⟨⟨nn, rfl⟩, hU5, hb5⟩
              have hB5 := hB4.trans hb5
              clear cS hU4 hB4 hb5
              go_wp2_with fail
              refine (builder_Len w1.heap.size w1.heap.size (byteCells (acc3 ++ tx)) w5 hU5).mono ?_
              rintro e w5' ⟨rfl, rfl⟩
              rw [byteCells_len]
              obtain ⟨acc4, hacc4⟩ : ∃ x, acc3 ++ tx = x := ⟨_, rfl⟩
              rw [hacc4] at hU5 HE5 ⊢
              have HU5 := hid hU5
              have HB5 := hid hB5
              clear hU5 hB5 hacc4 d0 d1
              by_cases hlen : 65536 < acc4.length
              · have hlz : (65536 : Int) < (acc4.length : Int) := by omega
                have hR : Hid (RES = ([], 2)) := by
                  have h1 := congrArg List.length HE5.out
                  rw [List.length_append] at h1
                  exact hid (by rw [← HRES.out, if_pos (by omega)])
                go_wp2
                go_ret2
                rw [hR.out]
                exact ⟨rfl, HB1.out.trans (HB5.out.mono (by omega))⟩
              · have hlz : ¬ (65536 : Int) < (acc4.length : Int) := by omega
                go_wp2
                go_roundw
                case rel => exact ⟨k + 1, acc4, by go_num, by omega, HU5, HB5, HE5, by omega, .inr (by omega)⟩
                case measure => simp [RowKit.intOf]; omega
          · have hE3 := hE2.out
            rw [List.drop_of_length_le (by omega)] at hE3
            have HE3 : Hid (acc2 ++ [10] ++ txtGo D Q (ls.drop (i + 1)) = TXT) := hid (by rw [← hE3, HREST.out]; simp [rowF])
            clear hE3 hE2
            go_wp2_with fail
            refine (builder_one w1.heap.size acc2 10 wr hU2.out (by omega) hB2.out.size).mono ?_
            rintro e w4 ⟨rfl, hU4, hB4⟩
            have HU4 := hid hU4
            have HB4 := hid (hB2.out.trans hB4)
            clear hU4 hB4
            have hal4 : (acc2 ++ [10]).length ≤ 65537 := by rw [List.length_append]; simp; omega
            go_wp2
            go_roundw
            case rel => exact ⟨i + 1, acc2 ++ [10], by go_num, by omega, HU4, HB4, HE3, hal4⟩
            case measure => simp [RowKit.intOf]; omega
      · have hE3 := hE.out
        rw [List.drop_of_length_le (by omega)] at hE3
        have HE3 : Hid (acc = TXT) := hid (by rw [← hE3]; simp [txtGo])
        clear hE3 hE
        go_wp2_with fail
        refine (builder_Len w1.heap.size w1.heap.size (byteCells acc) wr hU.out).mono ?_
        rintro e w5' ⟨rfl, rfl⟩
        rw [byteCells_len]
        by_cases hlen : 65536 < acc.length
        · have hlz : (65536 : Int) < (acc.length : Int) := by omega
          have hR : Hid (RES = ([], 2)) := hid (by rw [← HRES.out, if_pos (by rw [← HE3.out]; exact hlen)])
          go_wp2
          go_ret2
          rw [hR.out]
          exact ⟨rfl, HB1.out.trans (hB.out.mono (by omega))⟩
        · have hlz : ¬ (65536 : Int) < (acc.length : Int) := by omega
          have hR : Hid (RES = (TXT, 0)) := hid (by rw [← HRES.out, if_neg (by rw [← HE3.out]; exact hlen)])
          go_wp2_with fail
          refine (builder_String w1.heap.size w1.heap.size acc _ hU.out hB.out.size).mono ?_
          rintro e w6 ⟨rfl, _, hb6, _⟩
          go_wp2
          go_ret2
          rw [hR.out, ← HE3.out]
          exact ⟨rfl, HB1.out.trans ((hB.out.trans hb6).mono (by omega))⟩
  · have hKb : (K != 0) = true := by simpa using hK0
    rw [if_neg hK0]
    clear hK0 HV
    go_enter Tryd.func21, Tryd.ntmps21
    go_wp2_with fail
    refine cK.mono ?_
    rintro e w1 ⟨rfl, hb1⟩
    go_wp2
    go_ret2
    exact ⟨rfl, HB0.out.trans (hb1.mono (by simp))⟩
end Go.Proofs.YtcpkefjijinhiaaDoor.W2
