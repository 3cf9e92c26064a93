/-
  The code's text of a field of layer 2. Conditions: the dialect is valid; the field has at most 65536 bytes, each less than 128; the library's MaxLen holds a number.
-/
import Derived.Test.YtcpkefjijinhiaaDoorCNew
import Derived.Test.YtcpkefjijinhiaaDoorFormM
set_option linter.unusedVariables false
namespace Go.Proofs.YtcpkefjijinhiaaDoor
open Go Go.Proofs Go.RowKit Go.Lib

theorem index_bef (c : UInt8) : ∀ s, Lib.index s [c] = if has c s = true then ((bef c s).length : Int) else -1
  | [] => rfl
  | x :: r => by
    have ih := index_bef c r
    unfold Lib.index
    have hp : List.isPrefixOf [c] (x :: r) = (c == x) := by
      show (c == x && List.isPrefixOf [] r) = _
      rw [show List.isPrefixOf [] r = true by cases r <;> rfl, Bool.and_true]
    rw [hp]
    by_cases e : x = c
    · simp [e, has, bef]
    · have e' : (x == c) = false := by simpa using e
      have e'' : (c == x) = false := by rw [Bool.beq_comm]; exact e'
      simp only [e', e'', has, bef, if_neg e, Bool.false_or, Bool.false_eq_true, if_false]
      rw [ih]
      by_cases hh : has c r = true
      · rw [if_pos hh, if_pos hh]
        rw [if_neg (by simp)]
        simp
      · rw [if_neg hh, if_neg hh]
        rfl
theorem escF_miss (Q : UInt8) : ∀ s, has Q s = false → escF Q true s = s
  | [], _ => rfl
  | x :: r, h => by
    simp [has] at h
    have hx : (x.toNat == Q.toNat) = false := by
      simp only [beq_eq_false_iff_ne]
      exact fun e => h.1 (UInt8.toNat_inj.1 e)
    rw [escF_cons, escF_miss Q r h.2]
    simp [hx]
theorem escF_cut (Q : UInt8) (s : Str) (h : has Q s = true) : escF Q true s = bef Q s ++ [Q, Q] ++ escF Q true (aft Q s) := by
  induction s with
  | nil => simp [has] at h
  | cons x r ih =>
    rw [escF_cons]
    by_cases e : x = Q
    · subst e; simp [bef, aft]
    · have hx : (x.toNat == Q.toNat) = false := by
        simp only [beq_eq_false_iff_ne]
        exact fun e' => e (UInt8.toNat_inj.1 e')
      have h' : has Q r = true := by simpa [has, e] using h
      rw [ih h']
      simp [bef, aft, e, hx]
theorem replace_esc (Q : UInt8) : ∀ (fuel : Nat) (s : Str), s.length < fuel → Lib.replaceK [Q] [Q, Q] (Lib.countFrom [Q] fuel s) s = escF Q true s
  | 0, s, h => by omega
  | fuel + 1, s, h => by
    unfold Lib.countFrom
    rw [index_bef]
    cases hh : has Q s with
    | false =>
      simp only [Bool.false_eq_true, if_false]
      rw [escF_miss Q s hh]
      rfl
    | true =>
      have h0 := congrArg List.length (bef_hit Q s hh)
      simp only [List.length_append, List.length_cons] at h0
      have hd := aft_drop Q s hh
      have ht := bef_take Q s
      have hne : ¬ ((((bef Q s).length : Nat) : Int) == -1) = true := by simp
      rw [if_pos rfl, if_neg hne, Nat.add_comm]
      unfold Lib.replaceK
      rw [index_bef, hh, if_pos rfl, if_neg hne]
      simp only [Int.toNat_natCast, List.length_cons, List.length_nil, Nat.zero_add]
      rw [hd, ht, replace_esc Q fuel (aft Q s) (by omega), escF_cut Q s hh]
theorem replaceAll_esc (Q : UInt8) (s : Str) : Lib.replaceAll s [Q] [Q, Q] = escF Q true s := by
  unfold Lib.replaceAll Lib.replace Lib.replaceNum
  rw [if_neg (by simp), if_pos (by left; omega)]
  exact replace_esc Q _ s (by omega)
theorem containsAny_any (chars : Str) : ∀ s, Lib.containsAny s chars = s.any (fun b => chars.contains b)
  | [] => rfl
  | x :: r => by
    have ih := containsAny_any chars r
    unfold Lib.containsAny at ih ⊢
    unfold Lib.indexAny
    have hge := Lib.indexAny_ge chars r
    rw [List.any_cons]
    by_cases hx : chars.contains x = true
    · rw [if_pos hx, hx]
      rfl
    · have hx' : chars.contains x = false := by simpa using hx
      rw [if_neg hx, hx', Bool.false_or, ← ih]
      by_cases hm : Lib.indexAny r chars = -1
      · simp [hm]
      · have : ¬ (Lib.indexAny r chars == -1) = true := by simpa using hm
        rw [if_neg this, decide_eq_true (by omega : 0 ≤ Lib.indexAny r chars + 1), decide_eq_true (by omega : 0 ≤ Lib.indexAny r chars)]
theorem want_any (D Q : UInt8) (s : Str) : Lib.containsAny s [D, Q, 13, 10] = s.any (wantC D Q) := by
  rw [containsAny_any]
  congr 1
  funext b
  unfold wantC
  have key : ∀ x y : UInt8, (x == y) = (x.toNat == y.toNat) := fun x y => by
    rw [Bool.eq_iff_iff]
    simp only [beq_iff_eq]
    exact UInt8.toNat_inj.symm
  simp only [List.contains_cons, List.contains_nil, Bool.or_false]
  rw [key, key, key b 13, key b 10]
  show (_ || (_ || (b.toNat == 13 || b.toNat == 10))) = _
  cases (b.toNat == D.toNat) <;> cases (b.toNat == Q.toNat) <;> cases (b.toNat == 13) <;> cases (b.toNat == 10) <;> rfl
/-- What fieldText returns. -/
def textF (D Q : UInt8) (k : Nat) (only : Bool) (s : Str) : Str := markF Q (needB D Q s (k == 0) only) ++ (escF Q (needB D Q s (k == 0) only) s ++ markF Q (needB D Q s (k == 0) only))
theorem escF_false (Q : UInt8) : ∀ s, escF Q false s = s
  | [] => rfl
  | x :: r => by rw [escF_cons, escF_false Q r]; rfl
theorem textF_plain (D Q : UInt8) (k : Nat) (only : Bool) (s : Str) (h : needB D Q s (k == 0) only = false) : textF D Q k only s = s := by
  unfold textF
  rw [h, escF_false]
  simp [markF]
theorem textF_quoted (D Q : UInt8) (k : Nat) (only : Bool) (s : Str) (h : needB D Q s (k == 0) only = true) : textF D Q k only s = [Q] ++ escF Q true s ++ [Q] := by
  unfold textF
  rw [h]
  simp [markF]
theorem need_split (D Q : UInt8) (s : Str) (first only : Bool) : needB D Q s first only = (s.any (wantC D Q) || ((first && (s.head? == some 35)) || (s.isEmpty && only))) := by
  unfold needB
  cases s with
  | nil => simp
  | cons x r =>
    rw [if_neg (by simp)]
    have hx : (((x :: r).getD 0 0).toNat == 35) = ((x :: r).head? == some 35) := by
      rw [Bool.eq_iff_iff]
      simp only [beq_iff_eq, List.getD_cons_zero, List.head?_cons, Option.some.injEq]
      exact ⟨fun h => UInt8.toNat_inj.1 h, fun h => by rw [h]; rfl⟩
    rw [hx]
    cases hb : (first && ((x :: r).head? == some 35)) with
    | true => simp
    | false => simp

theorem countFrom_le (c : UInt8) : ∀ (fuel : Nat) (s : Str), Lib.countFrom [c] fuel s ≤ s.length
  | 0, _ => Nat.zero_le _
  | fuel + 1, s => by
    unfold Lib.countFrom
    rw [index_bef]
    cases hh : has c s with
    | false => simp
    | true =>
      have h0 := congrArg List.length (bef_hit c s hh)
      simp only [List.length_append, List.length_cons] at h0
      have hd := aft_drop c s hh
      have hne : ¬ ((((bef c s).length : Nat) : Int) == -1) = true := by simp
      rw [if_pos rfl, if_neg hne]
      simp only [Int.toNat_natCast, List.length_cons, List.length_nil, Nat.zero_add]
      rw [hd]
      have := countFrom_le c fuel (aft c s)
      omega
theorem contains_c (T : ByteArray) (D Q : UInt8) (hT : T.data.toList.length ≤ 65536) (hasc : ∀ b ∈ T.data.toList, b.toNat < 128) (hD : D.toNat < 128) (hQ : Q.toNat < 128) (w : World) :
    Calls Tryd.prog 48 #[.string T, .string ((⟨#[D]⟩ : ByteArray) ++ ⟨#[Q]⟩ ++ ⟨#[13, 10]⟩)] w fun e w' => e = .returned (.bool (T.data.toList.any (wantC D Q))) ∧ Below w.heap.size w w' := by
  have hch : ((⟨#[D]⟩ : ByteArray) ++ ⟨#[Q]⟩ ++ ⟨#[13, 10]⟩).data.toList = [D, Q, 13, 10] := rfl
  have hsz : T.size = T.data.toList.length := Lib.size_eq T
  refine (Tryd.strings_ContainsAny_laid T _ w (by omega) (by rw [Lib.size_eq, hch]; simp) (fun j b hb => hasc b (List.mem_of_getElem? hb)) ?_).mono fun e w' h => ⟨?_, h.2⟩
  · intro j b hb
    rw [hch] at hb
    have := List.mem_of_getElem? hb
    simp only [List.mem_cons, List.not_mem_nil, or_false] at this
    rcases this with rfl | rfl | rfl | rfl
    · exact hD
    · exact hQ
    · decide
    · decide
  · rw [h.1, hch, want_any]
theorem replace_c (T : ByteArray) (Q : UInt8) (m : Int) (hT : T.data.toList.length ≤ 65536) (w : World) (hm : w.cell? ⟨0, 0, none⟩ = some (.int .i64 m)) :
    Calls Tryd.prog 50 #[.string T, .string ⟨#[Q]⟩, .string ((⟨#[Q]⟩ : ByteArray) ++ ⟨#[Q]⟩)] w fun e w' => e = .returned (.string ⟨(escF Q true T.data.toList).toArray⟩) ∧ Below w.heap.size w w' := by
  have hch : ((⟨#[Q]⟩ : ByteArray) ++ ⟨#[Q]⟩).data.toList = [Q, Q] := rfl
  have hsz : T.size = T.data.toList.length := Lib.size_eq T
  have h2 : ((⟨#[Q]⟩ : ByteArray) ++ ⟨#[Q]⟩).size = 2 := by rw [Lib.size_eq, hch]; rfl
  have hcnt : Lib.countB T ⟨#[Q]⟩ ≤ T.data.toList.length := countFrom_le Q _ _
  refine (Tryd.strings_ReplaceAll T ⟨#[Q]⟩ _ m w (by omega) hm (Nat.le_refl 1) (by rw [h2]; omega)).mono fun e w' h => ⟨?_, h.2⟩
  rw [h.1, hch, ← replaceAll_esc]
theorem esc_len2 (Q : UInt8) (q : Bool) : ∀ s : Str, (escF Q q s).length ≤ 2 * s.length
  | [] => Nat.le_refl _
  | x :: r => by
    rw [escF_cons, List.length_append]
    have := esc_len2 Q q r
    split <;> simp <;> omega
theorem prefix_t (T : ByteArray) (c : UInt8) (w : World) : Calls Tryd.prog 49 #[.string T, .string ⟨#[c]⟩] w fun e w' => e = .returned (.bool (T.data.toList.head? == some c)) ∧ w' = w := by
  have := prefix_one T.data.toList c w
  rwa [← strV_lst T] at this
theorem quote_val (Q : UInt8) (t : Str) : Value.string ((⟨#[Q]⟩ : ByteArray) ++ ⟨t.toArray⟩ ++ ⟨#[Q]⟩) = strV ([Q] ++ t ++ [Q]) := by
  unfold strV
  congr 1

set_option maxHeartbeats 4000000 in
set_option maxRecDepth 100000 in
theorem fieldText_any (A : Option Addr) (l : List Str) (n c i : Nat) (s : Str) (D Q : UInt8) (m : Int) (w : World) (hn : l.length = n) (hin : i < n) (hc : n ≤ c) (hc63 : c ≤ 9223372036854775807) (h : StrsIn w (fun b => b < w.heap.size) A l) (hs : l[i]? = some s) (hv : validB D Q = true)
    (hlen : s.length ≤ 65536) (hasc : ∀ b ∈ s, b.toNat < 128) (hm : w.cell? ⟨0, 0, none⟩ = some (.int .i64 m)) :
    Calls Tryd.prog 36 #[.slice A n c, .int .i64 (i : Int), dialV D Q] w fun e w' => e = .returned (strV (textF D Q i (n == 1) s)) ∧ Below w.heap.size w w' := by
  obtain ⟨b, off, rfl, hblt, hcell⟩ := h.at_ (k := i) (by omega)
  have hsi : l[i]'(by omega) = s := by
    have := List.getElem?_eq_getElem (by omega : i < l.length)
    rw [this] at hs
    injection hs
  rw [hsi] at hcell
  obtain ⟨hDv, hQv⟩ := valid_cases hv
  have heD : Utf8.encode (D.toNat : Int) = ⟨#[D]⟩ := by rcases hDv with rfl | rfl | rfl | rfl <;> kernel_rfl
  have heQ : Utf8.encode (Q.toNat : Int) = ⟨#[Q]⟩ := by rcases hQv with rfl | rfl <;> kernel_rfl
  have hD128 : D.toNat < 128 := by rcases hDv with rfl | rfl | rfl | rfl <;> decide
  have hQ128 : Q.toNat < 128 := by rcases hQv with rfl | rfl <;> decide
  have hns := need_split D Q s (i == 0) (n == 1)
  have hcz : (i : Int) < (n : Int) := by omega
  have hin0 : (0 : Int) ≤ (i : Int) := by omega
  clear h hs hsi hn hv hDv hQv
  unfold dialV
  obtain ⟨T, hT⟩ : ∃ T : ByteArray, (⟨s.toArray⟩ : ByteArray) = T := ⟨_, rfl⟩
  have hTl : T.data.toList = s := by rw [← hT]
  unfold strV at hcell
  rw [hT] at hcell
  have hb0 := Below.alloc (Below.refl w.heap.size w) (Nat.le_refl _) (.cells #[.int .u8 D.toNat, .int .u8 Q.toNat] 23)
  have HB0 := hid hb0
  have HNS := hid hns
  have HM := hid hm
  have HT := hid hT
  have HTL := hid hTl
  have ne0 : w.heap.size ≠ b := by omega
  have ne0' := ne0.symm
  have hbpos : 0 < w.heap.size := by omega
  have cC := contains_c T D Q (by rw [hTl]; exact hlen) (by rw [hTl]; exact hasc) hD128 hQ128
  have cR := fun w h => replace_c T Q m (by rw [hTl]; exact hlen) w h
  have cP := prefix_t T 35
  rw [hTl] at cC cR cP
  obtain ⟨RB, hRB⟩ : ∃ RB : ByteArray, (⟨(escF Q true s).toArray⟩ : ByteArray) = RB := ⟨_, rfl⟩
  rw [hRB] at cR
  have CR := hid cR
  have hRs : RB.size ≤ 131072 := by
    rw [← hRB]
    show (escF Q true s).length ≤ _
    have := esc_len2 Q true s
    omega
  have hQs : (⟨#[Q]⟩ : ByteArray).size = 1 := rfl
  have hQR : ((⟨#[Q]⟩ : ByteArray) ++ RB).size = 1 + RB.size := by rw [ByteArray.size_append, hQs]
  have add1 : ∀ w, (Op.stringOp .add (⟨#[Q]⟩ : ByteArray) RB).run Tryd.prog w = .ok (.string (⟨#[Q]⟩ ++ RB)) w := fun w => run_string_add_sum (w := w) _ _ (by rw [hQs]; omega)
  have add2 : ∀ w, (Op.stringOp .add ((⟨#[Q]⟩ : ByteArray) ++ RB) ⟨#[Q]⟩).run Tryd.prog w = .ok (.string (⟨#[Q]⟩ ++ RB ++ ⟨#[Q]⟩)) w := fun w => run_string_add_sum (w := w) _ _ (by rw [hQs, hQR]; omega)
  clear hRs hQs hQR
  have HLEN := hid hlen
  have hTe : (T.toList == []) = s.isEmpty := by
    rw [Lib.toList_data, hTl]
    cases s <;> rfl
  have hTe2 : (T.toList == (⟨#[]⟩ : ByteArray).toList) = s.isEmpty := by
    rw [Lib.toList_data, Lib.toList_data, hTl]
    cases s <;> rfl
  have hTe3 : T.toList.isEmpty = s.isEmpty := by rw [Lib.toList_data, hTl]
  clear hb0 hns hm hT hTl hasc cR hlen
  obtain ⟨cont, hcont⟩ : ∃ b, s.any (wantC D Q) = b := ⟨_, rfl⟩
  rw [hcont] at cC HNS
  obtain ⟨hp, hhp⟩ : ∃ b, (s.head? == some 35) = b := ⟨_, rfl⟩
  rw [hhp] at cP HNS
  obtain ⟨em, hem⟩ : ∃ b, s.isEmpty = b := ⟨_, rfl⟩
  rw [hem] at hTe hTe2 hTe3 HNS
  have hi0 : ((i : Int) == 0) = (i == 0) := int_beq i 0
  have hn1 : ((n : Int) == 1) = (n == 1) := int_beq n 1
  obtain ⟨fi, hfi⟩ : ∃ b, (i == 0) = b := ⟨_, rfl⟩
  obtain ⟨on, hon⟩ : ∃ b, (n == 1) = b := ⟨_, rfl⟩
  rw [hfi] at hi0 HNS
  rw [hon] at hn1 HNS ⊢
  have hfin : (needB D Q s fi on = true → textF D Q i on s = [Q] ++ escF Q true s ++ [Q]) ∧ (needB D Q s fi on = false → textF D Q i on s = s) := by
    refine ⟨fun h => textF_quoted D Q i on s (by rw [hfi]; exact h), fun h => textF_plain D Q i on s (by rw [hfi]; exact h)⟩
  rw [HNS.out] at hfin
  obtain ⟨V, hV⟩ : ∃ V, strV (textF D Q i on s) = V := ⟨_, rfl⟩
  rw [hV]
  have HQ1 : Hid ((cont || (fi && hp || em && on)) = true → Value.string ((⟨#[Q]⟩ : ByteArray) ++ RB ++ ⟨#[Q]⟩) = V) := hid fun h => by rw [← hV, hfin.1 h, ← hRB, quote_val]
  have HQ0 : Hid ((cont || (fi && hp || em && on)) = false → Value.string T = V) := hid fun h => by rw [← hV, hfin.2 h, ← HT.out]; rfl
  clear hRB hfin hV hcont hhp hem hfi hon HNS HT
  go_enter Tryd.func36, Tryd.ntmps36
  go_wp2_with fail
  go_quiet (fail)
  go_wp2_with fail
  refine (cC _).mono ?_
  rintro e w1 ⟨rfl, hb1⟩
  have hs1 : ((w.alloc (.cells #[.int .u8 D.toNat, .int .u8 Q.toNat] 23)).drewN nq).heap.size = w.heap.size + 1 := by rw [(Rolled.drawn 0 _ nq).size]; simp
  have hB1 := (HB0.out.trans (below_drewNg _ nq w.heap.size)).trans (hb1.mono (by rw [hs1]; omega))
  have hm1 : w1.cell? ⟨0, 0, none⟩ = some (.int .i64 m) := (hB1.cell (p := ⟨0, 0, none⟩) hbpos).trans HM.out
  have HB1 := hid hB1
  have HM1 := hid hm1
  clear hb1 hs1 hB1 hm1 HB0 HM cC hcell
  cases cont with
  | true =>
    have hval := HQ1.out (by simp)
    have HVAL := hid hval
    clear hval
    go_wp2_with fail
    refine (CR.out _ HM1.out).mono ?_
    rintro e w2 ⟨rfl, hb2⟩
    go_wp2
    go_ret
    exact ⟨congrArg Ending.returned HVAL.out, HB1.out.trans (hb2.mono HB1.out.size)⟩
  | false =>
    cases fi with
    | true =>
      cases hp with
      | true =>
        have hval := HQ1.out (by simp)
        have HVAL := hid hval
        clear hval
        go_wp2_with fail
        refine (cP _).mono ?_
        rintro e w1 ⟨rfl, rfl⟩
        go_wp2_with fail
        refine (CR.out _ HM1.out).mono ?_
        rintro e w2 ⟨rfl, hb2⟩
        go_wp2
        go_ret
        exact ⟨congrArg Ending.returned HVAL.out, HB1.out.trans (hb2.mono HB1.out.size)⟩
      | false =>
        go_wp2_with fail
        refine (cP _).mono ?_
        rintro e w1 ⟨rfl, rfl⟩
        cases em with
        | false =>
          have HVAL := hid (HQ0.out (by simp))
          clear HQ0 HQ1
          go_wp2
          go_ret
          exact ⟨congrArg Ending.returned HVAL.out, HB1.out⟩
        | true =>
          cases on with
          | false =>
            have HVAL := hid (HQ0.out (by simp))
            clear HQ0 HQ1
            go_wp2
            go_ret
            exact ⟨congrArg Ending.returned HVAL.out, HB1.out⟩
          | true =>
            have HVAL := hid (HQ1.out (by simp))
            clear HQ0 HQ1
            go_wp2_with fail
            refine (CR.out _ HM1.out).mono ?_
            rintro e w2 ⟨rfl, hb2⟩
            go_wp2
            go_ret
            exact ⟨congrArg Ending.returned HVAL.out, HB1.out.trans (hb2.mono HB1.out.size)⟩
    | false =>
      cases em with
      | false =>
        have HVAL := hid (HQ0.out (by simp))
        clear HQ0 HQ1
        go_wp2
        go_ret
        exact ⟨congrArg Ending.returned HVAL.out, HB1.out⟩
      | true =>
        cases on with
        | false =>
          have HVAL := hid (HQ0.out (by simp))
          clear HQ0 HQ1
          go_wp2
          go_ret
          exact ⟨congrArg Ending.returned HVAL.out, HB1.out⟩
        | true =>
          have HVAL := hid (HQ1.out (by simp))
          clear HQ0 HQ1
          go_wp2_with fail
          refine (CR.out _ HM1.out).mono ?_
          rintro e w2 ⟨rfl, hb2⟩
          go_wp2
          go_ret
          exact ⟨congrArg Ending.returned HVAL.out, HB1.out.trans (hb2.mono HB1.out.size)⟩
end Go.Proofs.YtcpkefjijinhiaaDoor
