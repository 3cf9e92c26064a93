/-
  The reference's split and dots. Conditions: the string has at most 2^21 bytes.
-/
import Derived.Test.YtldnbneblpebiaaGreatDoorSplit
import Derived.Test.YtldnbneblpebiaaGreatDoorDotsM
import Derived.Test.YtldnbneblpebiaaGreatDoorR3
set_option linter.unusedVariables false
namespace Go.Proofs.YtldnbneblpebiaaGreatDoor
open Go Go.Proofs Go.RowKit Go.Lib

theorem splitL_first : ∀ (l : Str) (i : Nat), l[i]? = some 59 → (∀ j, j < i → l[j]? ≠ some 59) → splitL l = l.take i :: splitL (l.drop (i + 1))
  | [], i, h, _ => by simp at h
  | c :: s, 0, h, _ => by
    have : c = 59 := by simpa using h
    subst this
    simp [splitL]
  | c :: s, i + 1, h, hn => by
    have h0 : c ≠ 59 := fun e => hn 0 (by omega) (by simp [e])
    have ih := splitL_first s i (by simpa using h) (fun j hj => by have := hn (j + 1) (by omega); simpa using this)
    simp [splitL, if_neg h0, ih]
theorem splitL_no : ∀ (l : Str), (∀ j, j < l.length → l[j]? ≠ some 59) → splitL l = [l]
  | [], _ => rfl
  | c :: s, h => by
    have h0 : c ≠ 59 := fun e => h 0 (by simp) (by simp [e])
    have ih := splitL_no s (fun j hj => by have := h (j + 1) (by simp; omega); simpa using this)
    simp [splitL, if_neg h0, ih]
/-- Between two rounds of split. -/
def SplitSt (l : Str) (done : List Str) (a i : Nat) : Prop :=
  (i ≤ l.length → a ≤ l.length ∧ splitL l = done ++ splitL (l.drop a) ∧ ∀ j, a ≤ j → j < i → l[j]? ≠ some 59) ∧ (i = l.length + 1 → done = splitL l)
theorem SplitSt.hit {l : Str} {done : List Str} {a i : Nat} (h : SplitSt l done a i) (hi : i < l.length) (ha : a ≤ i) (hx : l[i]? = some 59) : SplitSt l (done ++ [(l.take i).drop a]) (i + 1) (i + 1) := by
  obtain ⟨h1, h2, h3⟩ := h.1 (by omega)
  have e := splitL_first (l.drop a) (i - a) (by rw [List.getElem?_drop, show a + (i - a) = i by omega]; exact hx) (fun j hj => by rw [List.getElem?_drop]; exact h3 (a + j) (by omega) (by omega))
  rw [List.drop_drop, show a + (i - a + 1) = i + 1 by omega] at e
  refine ⟨fun _ => ⟨by omega, ?_, fun j h1 h2 => by omega⟩, fun h => by omega⟩
  rw [h2, e, List.drop_take]
  simp
theorem SplitSt.miss {l : Str} {done : List Str} {a i : Nat} (h : SplitSt l done a i) (hi : i < l.length) (hx : l[i]? ≠ some 59) : SplitSt l done a (i + 1) := by
  obtain ⟨h1, h2, h3⟩ := h.1 (by omega)
  refine ⟨fun _ => ⟨h1, h2, fun j hj1 hj2 => ?_⟩, fun h => by omega⟩
  rcases Nat.lt_or_ge j i with hji | hji
  · exact h3 j hj1 hji
  · obtain rfl : j = i := by omega
    exact hx
theorem SplitSt.last {l : Str} {done : List Str} {a : Nat} (h : SplitSt l done a l.length) : SplitSt l (done ++ [(l.take l.length).drop a]) (l.length + 1) (l.length + 1) := by
  obtain ⟨h1, h2, h3⟩ := h.1 (Nat.le_refl _)
  have e := splitL_no (l.drop a) (fun j hj => by
    rw [List.getElem?_drop]
    simp at hj
    exact h3 (a + j) (by omega) (by omega))
  refine ⟨fun h => by omega, fun _ => ?_⟩
  rw [h2, e, List.take_length]

set_option maxHeartbeats 4000000 in
set_option maxRecDepth 100000 in
theorem split_any (s : ByteArray) (hs : s.size ≤ 2097152) (w : World) : Calls Tryz.prog 46 #[.string s] w (RowOut (splitL (lst s)) w) := by
  obtain ⟨i9, hi9, hz9, hsi9, hby9⟩ := info_parts infoStr
  have hlen : (lst s).length = s.size := (Lib.size_eq s).symm
  go_enter Tryz.func46, Tryz.ntmps46
  go_wp2
  go_loopw [3, 4, 5] (fun v av iv wr => ∃ (done : List Str) (a i : Nat), av = .int .i64 (a : Int) ∧ iv = .int .i64 (i : Int) ∧ i ≤ s.size + 1 ∧ (i ≤ s.size → a ≤ i) ∧ StrRow wr w.heap.size v done ∧ done.length ≤ i ∧ Hid (SplitSt (lst s) done a i) ∧ Hid (Below w.heap.size w wr)) (fun _ _ iv _ => s.size + 1 - (RowKit.intOf iv).toNat)
  case atStart => exact ⟨[], 0, 0, rfl, rfl, by omega, fun _ => by omega, World.ownsRow_nil _ _ _ _, by simp, hid ⟨fun _ => ⟨by omega, by simp, fun j h1 h2 => by omega⟩, fun h => by omega⟩, hid (Below.refl _ _)⟩
  case round =>
    obtain ⟨done, a, i, rfl, rfl, hi, hai, hrow, hdl, hst, hB⟩ := hrel
    have HRow := hid hrow
    clear hrow
    by_cases hle : i ≤ s.size
    · have hlez : (i : Int) ≤ (s.size : Int) := by omega
      have ha := hai hle
      have haz : (a : Int) ≤ (i : Int) := by omega
      have e1 : IntKind.i64.wrap ((i : Int) + 1) = (i : Int) + 1 := IntWalk.i64_in _ (by omega)
      obtain ⟨X, hX⟩ : ∃ X, s.extract a i = X := ⟨_, rfl⟩
      have lX : lst X = ((lst s).take i).drop a := by rw [← hX, lst_extract]
      have HC3 : Hid (done.length + 1 ≤ maxLen) := by unfold maxLen; exact hid (by omega)
      have HC4 : Hid ((done.length + 1) * 16 ≤ 140737488355328) := hid (by omega)
      have HC5 : Hid (∀ o : Obj, w.heap.size ≤ (wr.alloc o).heap.size) := hid (fun o => by have := hB.out.size; simp; omega)
      have three : (i = s.size) ∨ (∃ h : i < s.size, s[i]'h = 59) ∨ (∃ h : i < s.size, s[i]'h ≠ 59) := by
        rcases Nat.lt_or_ge i s.size with h | h
        · by_cases hx : s[i]'h = 59
          · exact .inr (.inl ⟨h, hx⟩)
          · exact .inr (.inr ⟨h, hx⟩)
        · exact .inl (by omega)
      have fin : ∀ (hst2 : SplitSt (lst s) (done ++ [lst X]) (i + 1) (i + 1)), True := fun _ => trivial
      clear fin
      rcases three with he | ⟨hlt, hx⟩ | ⟨hlt, hx⟩
      · have hez : ((i : Int) == (s.size : Int)) = true := by simp [he]
        have hst2 := hid (show SplitSt (lst s) (done ++ [lst X]) (i + 1) (i + 1) by
          have h := hst.out
          rw [he, ← hlen] at h
          have h2 := h.last
          rw [lX, he, ← hlen]
          exact h2)
        clear lX he hst
        go_wp2_with (first | (at_builtin; refine wpList_append_own _ rfl _ _ 34 rfl w.heap.size 9 i9 (.string ⟨#[]⟩) 1 16 Tryz.underlying34 hi9 hz9 hsi9 hby9 rfl (by decide) _ done.length (strVals done) rfl (World.ownsRow.alloc HRow.out _) ⟨wr.heap.size, 0, none⟩ 1 1 [.string X] rfl rfl (by rw [← hX]; exact one_new _ _ _) (one_str _) HC3.out HC4.out (HC5.out _) ?_))
        intro v' w6 hown' hgrow _
        have hg' := grownBy_of_alloc hgrow
        have hb56 : Below w.heap.size wr w6 := (Below.refl _ wr).grown hg' hB.out.size (fun k hk => (World.ownsRow.lt HRow.out k hk).1)
        have HB6 := hid (hB.out.trans hb56)
        have HRow6 := hid hown'
        clear hown' hgrow hg' hb56
        go_wp2
        go_roundw
        case rel =>
          refine ⟨done ++ [lst X], i + 1, i + 1, by go_num, by go_num, by omega, fun _ => Nat.le_refl _, ?_, by simp; omega, hst2, HB6⟩
          unfold StrRow
          rw [strVals_app, List.length_append]
          have e : strVals [lst X] = [.string X] := by show [strV (lst X)] = _; rw [strV_lst]
          rw [e]
          exact HRow6.out
        case measure => simp [RowKit.intOf]; omega
      · have hez : ((i : Int) == (s.size : Int)) = false := by simp; omega
        have hxz : (((s[i]'hlt).toNat : Int) == 59) = true := by rw [hx]; rfl
        have hg : (lst s)[i]? = some 59 := by rw [lst_get s i hlt, hx]
        have hst2 := hid (show SplitSt (lst s) (done ++ [lst X]) (i + 1) (i + 1) by
          rw [lX]
          exact hst.out.hit (by rw [hlen]; exact hlt) ha hg)
        obtain ⟨x, hxe⟩ : ∃ x, s[i]'hlt = x := ⟨_, rfl⟩
        rw [hxe] at hxz
        clear lX hg hst hx
        go_wp2_with (first | (at_builtin; refine wpList_append_own _ rfl _ _ 34 rfl w.heap.size 9 i9 (.string ⟨#[]⟩) 1 16 Tryz.underlying34 hi9 hz9 hsi9 hby9 rfl (by decide) _ done.length (strVals done) rfl (World.ownsRow.alloc HRow.out _) ⟨wr.heap.size, 0, none⟩ 1 1 [.string X] rfl rfl (by rw [← hX]; exact one_new _ _ _) (one_str _) HC3.out HC4.out (HC5.out _) ?_))
        intro v' w6 hown' hgrow _
        have hg' := grownBy_of_alloc hgrow
        have hb56 : Below w.heap.size wr w6 := (Below.refl _ wr).grown hg' hB.out.size (fun k hk => (World.ownsRow.lt HRow.out k hk).1)
        have HB6 := hid (hB.out.trans hb56)
        have HRow6 := hid hown'
        clear hown' hgrow hg' hb56
        go_wp2
        go_roundw
        case rel =>
          refine ⟨done ++ [lst X], i + 1, i + 1, by go_num, by go_num, by omega, fun _ => Nat.le_refl _, ?_, by simp; omega, hst2, HB6⟩
          unfold StrRow
          rw [strVals_app, List.length_append]
          have e : strVals [lst X] = [.string X] := by show [strV (lst X)] = _; rw [strV_lst]
          rw [e]
          exact HRow6.out
        case measure => simp [RowKit.intOf]; omega
      · have hez : ((i : Int) == (s.size : Int)) = false := by simp; omega
        have hg : (lst s)[i]? ≠ some 59 := by
          rw [lst_get s i hlt]
          intro e
          injection e with e
          exact hx e
        have hxz : (((s[i]'hlt).toNat : Int) == 59) = false := by
          rw [beq_eq_false_iff_ne]
          intro e
          exact hx (UInt8.toNat_inj.1 (by have : (59 : UInt8).toNat = 59 := rfl; omega))
        have hst2 := hid (hst.out.miss (by rw [hlen]; exact hlt) hg)
        obtain ⟨x, hxe⟩ : ∃ x, s[i]'hlt = x := ⟨_, rfl⟩
        rw [hxe] at hxz
        clear lX hg hst hx hX
        go_wp2
        go_roundw
        case rel => exact ⟨done, a, i + 1, rfl, by go_num, by omega, fun _ => by omega, HRow.out, by omega, hst2, hB⟩
        case measure => simp [RowKit.intOf]; omega
    · have hlez : ¬ (i : Int) ≤ (s.size : Int) := by omega
      have hd : done = splitL (lst s) := hst.out.2 (by omega)
      subst hd
      go_wp2
      go_ret
      exact ⟨⟨_, rfl, HRow.out⟩, hB.out⟩
end Go.Proofs.YtldnbneblpebiaaGreatDoor
