/-
  The code's text of a field of layer 2, for fields of any bytes. Conditions: the dialect is valid; the field has at most 1048576 bytes; the library's MaxLen holds a number.
-/
import Derived.Test.YtcpkefjijinhiaaDoorFText
import Derived.Test.YtcpkefjijinhiaaDoorHiRune
set_option linter.unusedVariables false
namespace Go.Proofs.YtcpkefjijinhiaaDoor.W2
open Go Go.Proofs Go.RowKit Go.Lib Go.Proofs.YtcpkefjijinhiaaDoor

theorem set_zero : (Tryd.prog.info? 111).map (fun i => (i.zero, i.size)) = some (some (.agg (Array.replicate 256 (.bool false))), 256) := by kernel_rfl
theorem indexAny_any (s C : ByteArray) (hC : C.size = 4) (hS : Asc C) (hs : s.size < 4294967281) (w : World) :
    Calls Tryd.prog 62 #[.string s, .string C] w fun e w' => e = .returned (.int .i64 (Lib.indexAny s.data.toList C.data.toList)) ∧ Below w.heap.size w w' := by
  by_cases h8 : s.size ≤ 8
  · exact indexAny_short s C hC hS h8 w
  · refine (Tryd.strings_IndexAny_long (zero_of_info set_zero).1 s C w (by omega) (by omega) hs (by omega) (fun j b hb => hS b (List.mem_of_getElem? hb))).mono fun e w' ⟨h1, h2⟩ => ⟨h1, ?_⟩
    rw [h2]
    exact ((Below.refl _ _).alloc (Nat.le_refl _) _).alloc (by simp) _
set_option maxHeartbeats 1000000 in
set_option maxRecDepth 100000 in
theorem contains_c (T : ByteArray) (D Q : UInt8) (hT : T.data.toList.length ≤ 1048576) (hD : D.toNat < 128) (hQ : Q.toNat < 128) (w : World) :
    Calls Tryd.prog 48 #[.string T, .string ((⟨#[D]⟩ : ByteArray) ++ ⟨#[Q]⟩ ++ ⟨#[13, 10]⟩)] w fun e w' => e = .returned (.bool (T.data.toList.any (wantC D Q))) ∧ Below w.heap.size w w' := by
  have hch : ((⟨#[D]⟩ : ByteArray) ++ ⟨#[Q]⟩ ++ ⟨#[13, 10]⟩).data.toList = [D, Q, 13, 10] := rfl
  have hsz : T.size = T.data.toList.length := Lib.size_eq T
  have hC4 : ((⟨#[D]⟩ : ByteArray) ++ ⟨#[Q]⟩ ++ ⟨#[13, 10]⟩).size = 4 := by rw [Lib.size_eq, hch]; rfl
  have hS : Asc ((⟨#[D]⟩ : ByteArray) ++ ⟨#[Q]⟩ ++ ⟨#[13, 10]⟩) := by
    intro b hb
    rw [hch] at hb
    simp only [List.mem_cons, List.not_mem_nil, or_false] at hb
    rcases hb with rfl | rfl | rfl | rfl
    · exact hD
    · exact hQ
    · decide
    · decide
  have c := indexAny_any T _ hC4 hS (by omega) w
  rw [hch] at c
  rw [← want_any]
  unfold Lib.containsAny
  obtain ⟨C, hC⟩ : ∃ C, ((⟨#[D]⟩ : ByteArray) ++ ⟨#[Q]⟩ ++ ⟨#[13, 10]⟩) = C := ⟨_, rfl⟩
  rw [hC] at c ⊢
  clear hC hC4 hS hch
  go_enter Tryd.func48, Tryd.ntmps48
  go_wp2_with fail
  refine c.mono ?_
  rintro e w1 ⟨rfl, hb⟩
  go_wp2
  go_ret
  exact ⟨rfl, hb⟩
theorem replace_c (T : ByteArray) (Q : UInt8) (m : Int) (hT : T.data.toList.length ≤ 1048576) (w : World) (hm : w.cell? ⟨0, 0, none⟩ = some (.int .i64 m)) :
    Calls Tryd.prog 50 #[.string T, .string ⟨#[Q]⟩, .string ((⟨#[Q]⟩ : ByteArray) ++ ⟨#[Q]⟩)] w fun e w' => e = .returned (.string ⟨(escF Q true T.data.toList).toArray⟩) ∧ Below w.heap.size w w' := by
  have hch : ((⟨#[Q]⟩ : ByteArray) ++ ⟨#[Q]⟩).data.toList = [Q, Q] := rfl
  have hsz : T.size = T.data.toList.length := Lib.size_eq T
  have h2 : ((⟨#[Q]⟩ : ByteArray) ++ ⟨#[Q]⟩).size = 2 := by rw [Lib.size_eq, hch]; rfl
  have hcnt : Lib.countB T ⟨#[Q]⟩ ≤ T.data.toList.length := countFrom_le Q _ _
  refine (Tryd.strings_ReplaceAll T ⟨#[Q]⟩ _ m w (by omega) hm (Nat.le_refl 1) (by rw [h2]; omega)).mono fun e w' h => ⟨?_, h.2⟩
  rw [h.1, hch, ← replaceAll_esc]

set_option maxHeartbeats 4000000 in
set_option maxRecDepth 100000 in
theorem fieldText_any (A : Option Addr) (l : List Str) (n c i : Nat) (s : Str) (D Q : UInt8) (m : Int) (w : World) (hn : l.length = n) (hin : i < n) (hc : n ≤ c) (hc63 : c ≤ 9223372036854775807) (h : StrsIn w (fun b => b < w.heap.size) A l) (hs : l[i]? = some s) (hv : validB D Q = true)
    (hlen : s.length ≤ 1048576) (hm : w.cell? ⟨0, 0, none⟩ = some (.int .i64 m)) :
    Calls Tryd.prog 36 #[.slice A n c, .int .i64 (i : Int), dialV D Q] w fun e w' => e = .returned (strV (textF D Q i (n == 1) s)) ∧ Below w.heap.size w w' := by
  obtain ⟨b, off, rfl, hblt, hcell⟩ := h.at_ (k := i) (by omega)
  have hsi : l[i]'(by omega) = s := by
    have := List.getElem?_eq_getElem (by omega : i < l.length)
    rw [this] at hs
    injection hs
  rw [hsi] at hcell
  obtain ⟨hDv, hQv⟩ := valid_cases hv
  have heD : Utf8.encode (D.toNat : Int) = ⟨#[D]⟩ := by rcases hDv with rfl | rfl | rfl | rfl <;> kernel_rfl
  have heQ : Utf8.encode (Q.toNat : Int) = ⟨#[Q]⟩ := by rcases hQv with rfl | rfl <;> kernel_rfl
  have hD128 : D.toNat < 128 := by rcases hDv with rfl | rfl | rfl | rfl <;> decide
  have hQ128 : Q.toNat < 128 := by rcases hQv with rfl | rfl <;> decide
  have hns := need_split D Q s (i == 0) (n == 1)
  have hcz : (i : Int) < (n : Int) := by omega
  have hin0 : (0 : Int) ≤ (i : Int) := by omega
  clear h hs hsi hn hv hDv hQv
  unfold dialV
  obtain ⟨T, hT⟩ : ∃ T : ByteArray, (⟨s.toArray⟩ : ByteArray) = T := ⟨_, rfl⟩
  have hTl : T.data.toList = s := by rw [← hT]
  unfold strV at hcell
  rw [hT] at hcell
  have hb0 := Below.alloc (Below.refl w.heap.size w) (Nat.le_refl _) (.cells #[.int .u8 D.toNat, .int .u8 Q.toNat] 23)
  have HB0 := hid hb0
  have HNS := hid hns
  have HM := hid hm
  have HT := hid hT
  have HTL := hid hTl
  have ne0 : w.heap.size ≠ b := by omega
  have ne0' := ne0.symm
  have hbpos : 0 < w.heap.size := by omega
  have cC := contains_c T D Q (by rw [hTl]; exact hlen) hD128 hQ128
  have cR := fun w h => replace_c T Q m (by rw [hTl]; exact hlen) w h
  have cP := prefix_t T 35
  rw [hTl] at cC cR cP
  obtain ⟨RB, hRB⟩ : ∃ RB : ByteArray, (⟨(escF Q true s).toArray⟩ : ByteArray) = RB := ⟨_, rfl⟩
  rw [hRB] at cR
  have CR := hid cR
  have hRs : RB.size ≤ 2097152 := by
    rw [← hRB]
    show (escF Q true s).length ≤ _
    have := esc_len2 Q true s
    omega
  have hQs : (⟨#[Q]⟩ : ByteArray).size = 1 := rfl
  have hQR : ((⟨#[Q]⟩ : ByteArray) ++ RB).size = 1 + RB.size := by rw [ByteArray.size_append, hQs]
  have add1 : ∀ w, (Op.stringOp .add (⟨#[Q]⟩ : ByteArray) RB).run Tryd.prog w = .ok (.string (⟨#[Q]⟩ ++ RB)) w := fun w => run_string_add_sum (w := w) _ _ (by rw [hQs]; omega)
  have add2 : ∀ w, (Op.stringOp .add ((⟨#[Q]⟩ : ByteArray) ++ RB) ⟨#[Q]⟩).run Tryd.prog w = .ok (.string (⟨#[Q]⟩ ++ RB ++ ⟨#[Q]⟩)) w := fun w => run_string_add_sum (w := w) _ _ (by rw [hQs, hQR]; omega)
  clear hRs hQs hQR
  have HLEN := hid hlen
  have hTe : (T.toList == []) = s.isEmpty := by
    rw [Lib.toList_data, hTl]
    cases s <;> rfl
  have hTe2 : (T.toList == (⟨#[]⟩ : ByteArray).toList) = s.isEmpty := by
    rw [Lib.toList_data, Lib.toList_data, hTl]
    cases s <;> rfl
  have hTe3 : T.toList.isEmpty = s.isEmpty := by rw [Lib.toList_data, hTl]
  clear hb0 hns hm hT hTl cR hlen
  obtain ⟨cont, hcont⟩ : ∃ b, s.any (wantC D Q) = b := ⟨_, rfl⟩
  rw [hcont] at cC HNS
  obtain ⟨hp, hhp⟩ : ∃ b, (s.head? == some 35) = b := ⟨_, rfl⟩
  rw [hhp] at cP HNS
  obtain ⟨em, hem⟩ : ∃ b, s.isEmpty = b := ⟨_, rfl⟩
  rw [hem] at hTe hTe2 hTe3 HNS
  have hi0 : ((i : Int) == 0) = (i == 0) := int_beq i 0
  have hn1 : ((n : Int) == 1) = (n == 1) := int_beq n 1
  obtain ⟨fi, hfi⟩ : ∃ b, (i == 0) = b := ⟨_, rfl⟩
  obtain ⟨on, hon⟩ : ∃ b, (n == 1) = b := ⟨_, rfl⟩
  rw [hfi] at hi0 HNS
  rw [hon] at hn1 HNS ⊢
  have hfin : (needB D Q s fi on = true → textF D Q i on s = [Q] ++ escF Q true s ++ [Q]) ∧ (needB D Q s fi on = false → textF D Q i on s = s) := by
    refine ⟨fun h => textF_quoted D Q i on s (by rw [hfi]; exact h), fun h => textF_plain D Q i on s (by rw [hfi]; exact h)⟩
  rw [HNS.out] at hfin
  obtain ⟨V, hV⟩ : ∃ V, strV (textF D Q i on s) = V := ⟨_, rfl⟩
  rw [hV]
  have HQ1 : Hid ((cont || (fi && hp || em && on)) = true → Value.string ((⟨#[Q]⟩ : ByteArray) ++ RB ++ ⟨#[Q]⟩) = V) := hid fun h => by rw [← hV, hfin.1 h, ← hRB, quote_val]
  have HQ0 : Hid ((cont || (fi && hp || em && on)) = false → Value.string T = V) := hid fun h => by rw [← hV, hfin.2 h, ← HT.out]; rfl
  clear hRB hfin hV hcont hhp hem hfi hon HNS HT
  go_enter Tryd.func36, Tryd.ntmps36
  go_wp2_with fail
  go_quiet (fail)
  go_wp2_with fail
  refine (cC _).mono ?_
  rintro e w1 ⟨rfl, hb1⟩
  have hs1 : ((w.alloc (.cells #[.int .u8 D.toNat, .int .u8 Q.toNat] 23)).drewN nq).heap.size = w.heap.size + 1 := by rw [(Rolled.drawn 0 _ nq).size]; simp
  have hB1 := (HB0.out.trans (below_drewNg _ nq w.heap.size)).trans (hb1.mono (by rw [hs1]; omega))
  have hm1 : w1.cell? ⟨0, 0, none⟩ = some (.int .i64 m) := (hB1.cell (p := ⟨0, 0, none⟩) hbpos).trans HM.out
  have HB1 := hid hB1
  have HM1 := hid hm1
  clear hb1 hs1 hB1 hm1 HB0 HM cC hcell
  cases cont with
  | true =>
    have hval := HQ1.out (by simp)
    have HVAL := hid hval
    clear hval
    go_wp2_with fail
    refine (CR.out _ HM1.out).mono ?_
    rintro e w2 ⟨rfl, hb2⟩
    go_wp2
    go_ret
    exact ⟨congrArg Ending.returned HVAL.out, HB1.out.trans (hb2.mono HB1.out.size)⟩
  | false =>
    cases fi with
    | true =>
      cases hp with
      | true =>
        have hval := HQ1.out (by simp)
        have HVAL := hid hval
        clear hval
        go_wp2_with fail
        refine (cP _).mono ?_
        rintro e w1 ⟨rfl, rfl⟩
        go_wp2_with fail
        refine (CR.out _ HM1.out).mono ?_
        rintro e w2 ⟨rfl, hb2⟩
        go_wp2
        go_ret
        exact ⟨congrArg Ending.returned HVAL.out, HB1.out.trans (hb2.mono HB1.out.size)⟩
      | false =>
        go_wp2_with fail
        refine (cP _).mono ?_
        rintro e w1 ⟨rfl, rfl⟩
        cases em with
        | false =>
          have HVAL := hid (HQ0.out (by simp))
          clear HQ0 HQ1
          go_wp2
          go_ret
          exact ⟨congrArg Ending.returned HVAL.out, HB1.out⟩
        | true =>
          cases on with
          | false =>
            have HVAL := hid (HQ0.out (by simp))
            clear HQ0 HQ1
            go_wp2
            go_ret
            exact ⟨congrArg Ending.returned HVAL.out, HB1.out⟩
          | true =>
            have HVAL := hid (HQ1.out (by simp))
            clear HQ0 HQ1
            go_wp2_with fail
            refine (CR.out _ HM1.out).mono ?_
            rintro e w2 ⟨rfl, hb2⟩
            go_wp2
            go_ret
            exact ⟨congrArg Ending.returned HVAL.out, HB1.out.trans (hb2.mono HB1.out.size)⟩
    | false =>
      cases em with
      | false =>
        have HVAL := hid (HQ0.out (by simp))
        clear HQ0 HQ1
        go_wp2
        go_ret
        exact ⟨congrArg Ending.returned HVAL.out, HB1.out⟩
      | true =>
        cases on with
        | false =>
          have HVAL := hid (HQ0.out (by simp))
          clear HQ0 HQ1
          go_wp2
          go_ret
          exact ⟨congrArg Ending.returned HVAL.out, HB1.out⟩
        | true =>
          have HVAL := hid (HQ1.out (by simp))
          clear HQ0 HQ1
          go_wp2_with fail
          refine (CR.out _ HM1.out).mono ?_
          rintro e w2 ⟨rfl, hb2⟩
          go_wp2
          go_ret
          exact ⟨congrArg Ending.returned HVAL.out, HB1.out.trans (hb2.mono HB1.out.size)⟩
end Go.Proofs.YtcpkefjijinhiaaDoor.W2
