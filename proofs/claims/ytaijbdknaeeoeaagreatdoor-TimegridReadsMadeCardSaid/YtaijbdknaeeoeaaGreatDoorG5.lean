/-
  The words of a time's text, and the name of a day: cutWords and dayOf of timegrid. Conditions: the table of the days' names holds what its text lays.
-/
import Derived.Test.YtaijbdknaeeoeaaGreatDoorA7
import Derived.Test.YtaijbdknaeeoeaaGreatDoorTM
set_option linter.unusedVariables false
namespace Go.Proofs.YtaijbdknaeeoeaaGreatDoor
open Go Go.Proofs Go.RowKit Go.Lib

/-- The cells of the table of the days' names. -/
def dayCells : List Value := [.string (ba (dayS 0)), .string (ba (dayS 1)), .string (ba (dayS 2)), .string (ba (dayS 3)), .string (ba (dayS 4)), .string (ba (dayS 5)), .string (ba (dayS 6))]
def Days (w : World) : Prop := ∀ (j : Nat) (v : Value), dayCells[j]? = some v → w.cell? ⟨0, j, none⟩ = some v
theorem Days.below {w w' : World} (h : Days w) {B : Nat} (hb : Below B w w') (hB : 5 < B) : Days w' :=
  fun j v hj => (hb.cell (p := ⟨0, j, none⟩) (by show 0 < B; omega)).trans (h j v hj)
def DayEntry (AR : Array Value) : Prop := ∀ k, k < 7 → ∃ T : ByteArray, lst T = dayS k ∧ ∀ w, (Instr.index 59 (Value.agg AR) (Value.int IntKind.i64 (k : Int))).run Tryz.prog w = .ok (Value.string T) w
theorem day_idx : DayEntry dayCells.toArray := by
  intro k hk
  rcases (show k = 0 ∨ k = 1 ∨ k = 2 ∨ k = 3 ∨ k = 4 ∨ k = 5 ∨ k = 6 by omega) with rfl | rfl | rfl | rfl | rfl | rfl | rfl
  · exact ⟨ba (dayS 0), rfl, fun w => by kernel_rfl⟩
  · exact ⟨ba (dayS 1), rfl, fun w => by kernel_rfl⟩
  · exact ⟨ba (dayS 2), rfl, fun w => by kernel_rfl⟩
  · exact ⟨ba (dayS 3), rfl, fun w => by kernel_rfl⟩
  · exact ⟨ba (dayS 4), rfl, fun w => by kernel_rfl⟩
  · exact ⟨ba (dayS 5), rfl, fun w => by kernel_rfl⟩
  · exact ⟨ba (dayS 6), rfl, fun w => by kernel_rfl⟩
theorem load_days {w : World} (hT : Days w) : ∃ L : List Value, Hid (DayEntry L.toArray) ∧ w.rangeAt 0 0 L ∧ (Tryz.prog.info? 59).map (·.size) = some L.length :=
  ⟨dayCells, hid day_idx, fun j v h => by rw [Nat.zero_add]; exact hT j v h, by kernel_rfl⟩
def dayR (x : Str) : Nat × Bool := match dayK x with | some k => (k, true) | none => (0, false)

set_option maxHeartbeats 4000000 in
set_option maxRecDepth 100000 in
theorem dayOf_any (s : ByteArray) (w : World) (hT : Days w) :
    Calls Tryz.prog 22 #[.string s] w fun e w' => e = .returned (.tuple #[.int .i64 ((dayR (lst s)).1 : Nat), .bool (dayR (lst s)).2]) ∧ Below w.heap.size w w' := by
  obtain ⟨R, hR⟩ : ∃ R, dayR (lst s) = R := ⟨_, rfl⟩
  have HR := hid hR
  obtain ⟨L, hX, hL1, hL2⟩ := load_days hT
  have HL1 := hid hL1
  have HL2 := hid hL2
  clear hL1 hL2
  rw [hR]
  clear hR hT
  go_enter Tryz.func22, Tryz.ntmps22
  go_wp2_with (refine wpList_load_mid rfl 59 _ rfl 0 0 rfl L _ HL1.out Tryz.underlying59 rfl HL2.out ?_)
  generalize L.toArray = AR at hX ⊢
  clear HL1 HL2
  go_loopw [7] (fun iv wr => ∃ k : Nat, iv = .int .i64 (k : Int) ∧ k ≤ 7 ∧ Hid (∀ i, i < k → dayS i ≠ lst s) ∧ Hid (Below w.heap.size w wr)) (fun iv _ => 7 - (RowKit.intOf iv).toNat)
  case atStart => exact ⟨0, rfl, by omega, hid (fun i hi => absurd hi (by omega)), hid (Below.refl _ _)⟩
  case round =>
    obtain ⟨k, rfl, hk, hne, hB⟩ := hrel
    by_cases hlt : k < 7
    · have hltz : (k : Int) < 7 := by omega
      obtain ⟨T, hTw, hix⟩ := hX.out k hlt
      have HTW := hid hTw
      clear hTw
      by_cases hw : lst T = lst s
      · have hr : R = (k, true) := by
          rw [← HR.out]
          unfold dayR
          rw [dayK_of hlt (HTW.out.symm.trans hw)]
        subst hr
        have he := toListEq hw
        clear hw HR
        go_wp2
        go_ret2
        exact ⟨rfl, hB.out⟩
      · have hnx : Hid (∀ i, i < k + 1 → dayS i ≠ lst s) := hid (fun i hi => by
          rcases Nat.lt_or_ge i k with h | h
          · exact hne.out i h
          · obtain rfl : i = k := by omega
            exact fun e => hw (HTW.out.trans e))
        have he := toListNe hw
        clear hw
        go_wp2
        go_roundw
        case rel => exact ⟨k + 1, by go_num, by omega, hnx, hid hB.out⟩
        case measure => simp [RowKit.intOf]; omega
    · obtain rfl : k = 7 := by omega
      have hr : R = (0, false) := by
        rw [← HR.out]
        unfold dayR
        rw [dayK_none hne.out]
      subst hr
      go_wp2
      go_ret2
      exact ⟨rfl, hB.out⟩

theorem indexByte_has (c : UInt8) (s : Str) : decide (0 ≤ Lib.indexByte s c) = has c s := by
  rw [indexByte_bef]
  cases has c s with
  | true => rw [if_pos rfl]; exact decide_eq_true (by omega)
  | false => rw [if_neg (by simp)]; rfl
/-- The set of weeks that a text names, in writing. -/
def setT (x : Str) : Str := if wThree x = true then wSet x else [97, 108, 108]
theorem words_set (x : Str) : wordsB x = decide (setT x ≠ [] ∧ has 32 (setT x) = false) := by
  unfold wordsB setT
  cases wThree x with
  | true => simp
  | false => simp; decide
theorem results_4 {fn : Func} {p q r u : Tmp} (h : fn.results = #[.tmp p, .tmp q, .tmp r, .tmp u]) (tmps : Array Value) (P : Program) (w : World) (va vb vc vd : Value)
    (ha : tmps.getD p undef = va) (hb : tmps.getD q undef = vb) (hc : tmps.getD r undef = vc) (hd : tmps.getD u undef = vd) : (results fn tmps).run P w = .ok (.tuple #[va, vb, vc, vd]) w := by
  rw [Array.getD_eq_getD_getElem?] at ha hb hc hd
  simp only [results, h]
  simp [Result.andThen, ha, hb, hc, hd]
def WordsOut (x : Str) (w : World) (e : Ending) (w' : World) : Prop :=
  e = .returned (.tuple #[.string (ba (wDay x)), .string (ba (wSlots x)), .string (ba (setT x)), .bool (wordsB x)]) ∧ Below w.heap.size w w'
set_option maxHeartbeats 4000000 in
set_option maxRecDepth 100000 in
theorem cutWords_any (s : ByteArray) (hz : s.size ≤ 4611686018427387904) (w : World) : Calls Tryz.prog 21 #[.string s] w (WordsOut (lst s) w) := by
  have c1 := fun w => cut_any s 32 hz w
  have hRs := aft_small (s := s) 32 hz
  obtain ⟨A, hA⟩ : ∃ A, ba (bef 32 (lst s)) = A := ⟨_, rfl⟩
  obtain ⟨R, hR⟩ : ∃ R, ba (aft 32 (lst s)) = R := ⟨_, rfl⟩
  obtain ⟨two, h2⟩ : ∃ two, has 32 (lst s) = two := ⟨_, rfl⟩
  have lR : aft 32 (lst s) = lst R := by rw [← hR]; rfl
  rw [hR] at hRs
  have c2 := fun w => cut_any R 32 hRs w
  have hCs := aft_small (s := R) 32 hRs
  obtain ⟨S, hS⟩ : ∃ S, ba (bef 32 (lst R)) = S := ⟨_, rfl⟩
  obtain ⟨C, hC⟩ : ∃ C, ba (aft 32 (lst R)) = C := ⟨_, rfl⟩
  obtain ⟨three, h3⟩ : ∃ three, has 32 (lst R) = three := ⟨_, rfl⟩
  have lC : aft 32 (lst R) = lst C := by rw [← hC]; rfl
  unfold CutOut at c1 c2
  rw [hA, hR, h2] at c1
  rw [hS, hC, h3] at c2
  unfold WordsOut
  rw [words_set]
  unfold setT wDay wSlots wThree wSet
  rw [hA, lR, hS, h3, lC]
  have cK := fun w => Tryz.strings_Contains_one C 32 w
  have cK2 := fun w => Tryz.strings_Contains_one ⟨#[97, 108, 108]⟩ 32 w
  rw [show Lib.indexByte C.data.toList 32 = Lib.indexByte (lst C) 32 from rfl, indexByte_has] at cK
  rw [show decide (0 ≤ Lib.indexByte (⟨#[97, 108, 108]⟩ : ByteArray).data.toList 32) = false by decide] at cK2
  have C1 := hid c1
  have C2 := hid c2
  clear c1 c2 hRs hCs hA hR h2 lR hS hC h3 lC hz
  cases three with
  | false =>
    rw [if_neg (by simp), show decide (([97, 108, 108] : Str) ≠ [] ∧ has 32 [97, 108, 108] = false) = true by decide]
    go_enter Tryz.func21, Tryz.ntmps21
    go_wp2_with fail
    refine (C1.out _).mono ?_
    rintro e w1 ⟨rfl, q1, hq1⟩
    have HB1 : Hid (Below w.heap.size w w1) := hid (by rw [hq1]; exact below_drewN (Below.refl _ _) q1)
    clear hq1
    go_wp2_with fail
    refine (C2.out _).mono ?_
    rintro e w2 ⟨rfl, q2, hq2⟩
    have HB2 : Hid (Below w.heap.size w w2) := hid (by rw [hq2]; exact below_drewN HB1.out q2)
    clear hq2
    go_wp2_with fail
    refine (cK2 _).mono ?_
    rintro e w3 ⟨rfl, rfl⟩
    go_wp2
    refine bodyPost_ret (v := .tuple #[.string A, .string S, .string (ba [97, 108, 108]), .bool true]) (results_4 rfl _ _ _ _ _ _ _ rfl rfl rfl rfl) rfl ?_
    exact ⟨rfl, HB2.out⟩
  | true =>
    rw [if_pos rfl, ba_lst]
    by_cases h0 : 0 < C.size
    · obtain ⟨x1, x2, x3, x4⟩ := str_no h0
      rw [show decide (lst C ≠ [] ∧ has 32 (lst C) = false) = !(has 32 (lst C)) by
        have := lst_ne h0
        cases has 32 (lst C) <;> simp [this]]
      generalize has 32 (lst C) = H at cK ⊢
      clear h0
      go_enter Tryz.func21, Tryz.ntmps21
      go_wp2_with fail
      refine (C1.out _).mono ?_
      rintro e w1 ⟨rfl, q1, hq1⟩
      have HB1 : Hid (Below w.heap.size w w1) := hid (by rw [hq1]; exact below_drewN (Below.refl _ _) q1)
      clear hq1
      go_wp2_with fail
      refine (C2.out _).mono ?_
      rintro e w2 ⟨rfl, q2, hq2⟩
      have HB2 : Hid (Below w.heap.size w w2) := hid (by rw [hq2]; exact below_drewN HB1.out q2)
      clear hq2
      go_wp2_with fail
      refine (cK _).mono ?_
      rintro e w3 ⟨rfl, rfl⟩
      go_wp2
      refine bodyPost_ret (v := .tuple #[.string A, .string S, .string C, .bool (!H)]) (results_4 rfl _ _ _ _ _ _ _ rfl rfl rfl rfl) rfl ?_
      exact ⟨rfl, HB2.out⟩
    · obtain ⟨x1, x2, x3, x4⟩ := str_yes h0
      rw [decide_eq_false (fun h => h.1 (lst_nil h0))]
      clear h0
      go_enter Tryz.func21, Tryz.ntmps21
      go_wp2_with fail
      refine (C1.out _).mono ?_
      rintro e w1 ⟨rfl, q1, hq1⟩
      have HB1 : Hid (Below w.heap.size w w1) := hid (by rw [hq1]; exact below_drewN (Below.refl _ _) q1)
      clear hq1
      go_wp2_with fail
      refine (C2.out _).mono ?_
      rintro e w2 ⟨rfl, q2, hq2⟩
      have HB2 : Hid (Below w.heap.size w w2) := hid (by rw [hq2]; exact below_drewN HB1.out q2)
      clear hq2
      go_wp2
      refine bodyPost_ret (v := .tuple #[.string A, .string S, .string C, .bool false]) (results_4 rfl _ _ _ _ _ _ _ rfl rfl rfl rfl) rfl ?_
      exact ⟨rfl, HB2.out⟩
end Go.Proofs.YtaijbdknaeeoeaaGreatDoor
