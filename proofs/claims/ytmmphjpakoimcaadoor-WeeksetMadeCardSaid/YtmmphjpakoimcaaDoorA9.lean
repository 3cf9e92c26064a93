/-
  The specification's item. Conditions: the words lie in memory as the text says; the number of weeks is from 1 to 20.
-/
import Derived.Test.YtmmphjpakoimcaaDoorA8
set_option linter.unusedVariables false
namespace Go.Proofs.YtmmphjpakoimcaaDoor
open Go Go.Proofs Go.RowKit Go.Lib

theorem span_step (a v : Nat) (h : a ≤ v) (hv : v ≤ 20) : bits .or .i64 ((spanN (a + 1) v : Nat) : Int) (2 ^ v) = ((spanN (a + 1) (v + 1) : Nat) : Int) := by
  rw [or_pow (spanN (a + 1) v) v (spanN_lt _ _) hv]
  congr 1
  have h1 := pow_le h
  unfold spanN
  rw [Nat.add_sub_cancel, Nat.pow_succ]
  omega
theorem span_self (a : Nat) : spanN (a + 1) a = 0 := by unfold spanN; simp

set_option maxHeartbeats 8000000 in
set_option maxRecDepth 100000 in
theorem ritem_any (s : ByteArray) (hz : s.size ≤ 4611686018427387904) (n : Nat) (h1 : 1 ≤ n) (h2 : n ≤ 20) (w : World) (hE : Words w) :
    Calls Tryd.prog 28 #[.string s, .int .i64 (n : Int)] w (ItemOut (itemM (lst s) n) w) := by
  obtain ⟨R, hR⟩ : ∃ R, itemM (lst s) n = R := ⟨_, rfl⟩
  rw [hR]
  have HR := hid hR
  have HE := hid hE
  have cC := hid (fun w => rcut_any s 45 hz w)
  have cS := hid rsmall_any
  have cN := hid (fun k hk w => rnamed_any k n hk h1 h2 w)
  clear hR hE
  go_enter Tryd.func28, Tryd.ntmps28
  go_wp2
  go_loopw [6] (fun iv wr => ∃ k : Nat, iv = .int .i64 (k : Int) ∧ k ≤ 5 ∧ Hid (∀ i, i < k → wordS i ≠ lst s) ∧ Hid (wr = w)) (fun iv _ => 5 - (RowKit.intOf iv).toNat)
  case atStart => exact ⟨0, rfl, by omega, hid (fun i hi => absurd hi (by omega)), by trivial⟩
  case round =>
    obtain ⟨k, rfl, hk, hne, hw⟩ := hrel
    obtain rfl : w = wr := hw.out.symm
    by_cases hlt : k < 5
    · have hltz : (k : Int) < 5 := by omega
      have hc := HE.out k hlt
      obtain ⟨T, hT⟩ : ∃ T : ByteArray, (⟨(wordS k).toArray⟩ : ByteArray) = T := ⟨_, rfl⟩
      have hTl : lst T = wordS k := by rw [← hT]
      rw [hT] at hc
      clear hT
      by_cases he : wordS k = lst s
      · have heq : (s.toList == T.toList) = true := by rw [tl_eq, tl_eq, hTl, he]; simp
        obtain rfl : R = (nmM k n, 0) := by
          rw [← HR.out]
          unfold itemM
          rw [kindOf_some hlt he]
        clear he hTl HR
        go_wp2_with fail
        refine (cN.out k hlt _).mono ?_
        rintro e w' ⟨rfl, rfl⟩
        go_wp2
        go_ret2
        exact ⟨rfl, Below.refl _ _⟩
      · have heq : (s.toList == T.toList) = false := by rw [tl_eq, tl_eq, hTl]; simpa using fun e => he e.symm
        have hnx : Hid (∀ i, i < k + 1 → wordS i ≠ lst s) := hid (fun i hi => by
          rcases Nat.lt_or_ge i k with h | h
          · exact hne.out i h
          · obtain rfl : i = k := by omega
            exact he)
        clear he hTl
        go_wp2
        go_roundw
        case rel => exact ⟨k + 1, by go_num, by omega, hnx, by trivial⟩
        case measure => simp [RowKit.intOf]; omega
    · obtain rfl : k = 5 := by omega
      have hr : numM (lst s) n = R := by
        rw [← HR.out]
        unfold itemM
        rw [kindOf_none hne.out]
      obtain ⟨A, hA⟩ : ∃ A, ba (bef 45 (lst s)) = A := ⟨_, rfl⟩
      obtain ⟨B, hB⟩ : ∃ B, ba (aft 45 (lst s)) = B := ⟨_, rfl⟩
      obtain ⟨d, hd⟩ : ∃ d, has 45 (lst s) = d := ⟨_, rfl⟩
      have lA : bef 45 (lst s) = lst A := by rw [← hA]; rfl
      have lB : aft 45 (lst s) = lst B := by rw [← hB]; rfl
      have cC' := cC.out
      unfold CutOut at cC'
      rw [hA, hB, hd] at cC'
      have CC := hid cC'
      have cX := hid (fun w => cS.out A w)
      have cY := hid (fun w => cS.out B w)
      obtain ⟨x, hx⟩ : ∃ x, smallN (lst A) = x := ⟨_, rfl⟩
      obtain ⟨y, hy⟩ : ∃ y, smallN (lst B) = y := ⟨_, rfl⟩
      have hr2 : (if x = 0 ∨ (if d = true then y else x) = 0 then ((0 : Nat), (4 : Int)) else if (if d = true then y else x) < x ∨ n < (if d = true then y else x) then (0, 3) else (spanN x (if d = true then y else x), 0)) = R := by
        rw [← hr]
        unfold numM fromN toN
        rw [lA, lB, hd, hx, hy]
      have cX' := cX.out
      have cY' := cY.out
      rw [hx] at cX'
      rw [hy] at cY'
      have CX := hid cX'
      have CY := hid cY'
      have HR2 := hid hr2
      have hyl : y < 100 := by rw [← hy]; exact smallN_lt _
      have hxl : x < 100 := by rw [← hx]; exact smallN_lt _
      obtain ⟨z, hzz⟩ : ∃ z, (if d = true then y else x) = z := ⟨_, rfl⟩
      have HR3 := HR2.out
      rw [hzz] at HR3
      have HRZ := hid HR3
      have hzl : z < 100 := by rw [← hzz]; split <;> omega
      have hdz : (d = true ∧ Hid (z = y)) ∨ (d = false ∧ Hid (z = x)) := by
        cases d with
        | true => exact .inl ⟨rfl, hid hzz.symm⟩
        | false => exact .inr ⟨rfl, hid hzz.symm⟩
      clear hr hA hB hd lA lB cC cC' cX cY hx hy hr2 cX' cY' HR HR2 HR3 hzz hne cS cN
      rcases (show (x = 0 ∨ z = 0) ∨ (1 ≤ x ∧ 1 ≤ z) by omega) with hbad | ⟨hx1, hz1⟩
      · obtain rfl : R = (0, 4) := by rw [← HRZ.out, if_pos hbad]
        clear HRZ
        rcases (show x = 0 ∨ (1 ≤ x ∧ z = 0) by omega) with hx0 | ⟨hx0, hz0⟩
        · subst hx0
          clear hbad
          rcases hdz with ⟨rfl, hzy⟩ | ⟨rfl, hzy⟩
          · go_wp2_with fail
            refine (CC.out _).mono ?_
            rintro e w2 ⟨rfl, q, hw2⟩
            have HB2 : Hid (Below w.heap.size w w2) := hid (by rw [hw2]; exact below_drewN (Below.refl _ _) q)
            clear hw2
            go_wp2_with fail
            refine (CX.out _).mono ?_
            rintro e w3 ⟨rfl, rfl⟩
            go_wp2_with fail
            refine (CY.out _).mono ?_
            rintro e w3 ⟨rfl, rfl⟩
            go_wp2
            go_ret2
            exact ⟨rfl, HB2.out⟩
          · go_wp2_with fail
            refine (CC.out _).mono ?_
            rintro e w2 ⟨rfl, q, hw2⟩
            have HB2 : Hid (Below w.heap.size w w2) := hid (by rw [hw2]; exact below_drewN (Below.refl _ _) q)
            clear hw2
            go_wp2_with fail
            refine (CX.out _).mono ?_
            rintro e w3 ⟨rfl, rfl⟩
            go_wp2
            go_ret2
            exact ⟨rfl, HB2.out⟩
        · have hxb : ((x : Int) == 0) = false := by simp; omega
          rcases hdz with ⟨rfl, hzy⟩ | ⟨rfl, hzy⟩
          · obtain rfl : y = 0 := by rw [← hzy.out, hz0]
            clear hbad hz0
            go_wp2_with fail
            refine (CC.out _).mono ?_
            rintro e w2 ⟨rfl, q, hw2⟩
            have HB2 : Hid (Below w.heap.size w w2) := hid (by rw [hw2]; exact below_drewN (Below.refl _ _) q)
            clear hw2
            go_wp2_with fail
            refine (CX.out _).mono ?_
            rintro e w3 ⟨rfl, rfl⟩
            go_wp2_with fail
            refine (CY.out _).mono ?_
            rintro e w3 ⟨rfl, rfl⟩
            go_wp2
            go_ret2
            exact ⟨rfl, HB2.out⟩
          · exact absurd hzy.out (by omega)
      · have HRZ2 : Hid ((if z < x ∨ n < z then ((0 : Nat), (3 : Int)) else (spanN x z, 0)) = R) := hid (by rw [← HRZ.out, if_neg (show ¬ (x = 0 ∨ z = 0) by omega)])
        clear HRZ
        have hxb : ((x : Int) == 0) = false := by simp; omega
        have hzb : ((z : Int) == 0) = false := by simp; omega
        have CZ : Hid (d = true → ∀ w, Calls Tryd.prog 39 #[.string B] w fun e w' => e = .returned (.int .i64 (z : Int)) ∧ w' = w) := hid (fun hd w => by
          rcases hdz with ⟨_, hzy⟩ | ⟨h, _⟩
          · rw [hzy.out]; exact CY.out w
          · rw [hd] at h; simp at h)
        have hdx : d = false → z = x := fun hd => by
          rcases hdz with ⟨h, _⟩ | ⟨_, hzy⟩
          · rw [hd] at h; simp at h
          · exact hzy.out
        have HDX := hid hdx
        clear hdz hdx CY
        by_cases hxn : n < x
        · have hi1 : (n : Int) < (x : Int) := by omega
          obtain rfl : R = (0, 3) := by rw [← HRZ2.out, if_pos (by omega)]
          clear HRZ2
          cases d with
          | true =>
            have CZt := hid (CZ.out rfl)
            go_wp2_with fail
            refine (CC.out _).mono ?_
            rintro e w2 ⟨rfl, q, hw2⟩
            have HB2 : Hid (Below w.heap.size w w2) := hid (by rw [hw2]; exact below_drewN (Below.refl _ _) q)
            clear hw2
            go_wp2_with fail
            refine (CX.out _).mono ?_
            rintro e w3 ⟨rfl, rfl⟩
            go_wp2_with fail
            refine (CZt.out _).mono ?_
            rintro e w3 ⟨rfl, rfl⟩
            go_wp2
            go_ret2
            exact ⟨rfl, HB2.out⟩
          | false =>
            go_wp2_with fail
            refine (CC.out _).mono ?_
            rintro e w2 ⟨rfl, q, hw2⟩
            have HB2 : Hid (Below w.heap.size w w2) := hid (by rw [hw2]; exact below_drewN (Below.refl _ _) q)
            clear hw2
            go_wp2_with fail
            refine (CX.out _).mono ?_
            rintro e w3 ⟨rfl, rfl⟩
            go_wp2
            go_ret2
            exact ⟨rfl, HB2.out⟩
        · have hi1 : ¬ (n : Int) < (x : Int) := by omega
          by_cases hzn : n < z
          · have hi2 : (n : Int) < (z : Int) := by omega
            obtain rfl : R = (0, 3) := by rw [← HRZ2.out, if_pos (by omega)]
            clear HRZ2
            cases d with
            | true =>
              have CZt := hid (CZ.out rfl)
              go_wp2_with fail
              refine (CC.out _).mono ?_
              rintro e w2 ⟨rfl, q, hw2⟩
              have HB2 : Hid (Below w.heap.size w w2) := hid (by rw [hw2]; exact below_drewN (Below.refl _ _) q)
              clear hw2
              go_wp2_with fail
              refine (CX.out _).mono ?_
              rintro e w3 ⟨rfl, rfl⟩
              go_wp2_with fail
              refine (CZt.out _).mono ?_
              rintro e w3 ⟨rfl, rfl⟩
              go_wp2
              go_ret2
              exact ⟨rfl, HB2.out⟩
            | false =>
              have := HDX.out rfl
              omega
          · have hi2 : ¬ (n : Int) < (z : Int) := by omega
            by_cases hzx : z < x
            · have hi3 : (z : Int) < (x : Int) := by omega
              obtain rfl : R = (0, 3) := by rw [← HRZ2.out, if_pos (by omega)]
              clear HRZ2
              cases d with
              | true =>
                have CZt := hid (CZ.out rfl)
                go_wp2_with fail
                refine (CC.out _).mono ?_
                rintro e w2 ⟨rfl, q, hw2⟩
                have HB2 : Hid (Below w.heap.size w w2) := hid (by rw [hw2]; exact below_drewN (Below.refl _ _) q)
                clear hw2
                go_wp2_with fail
                refine (CX.out _).mono ?_
                rintro e w3 ⟨rfl, rfl⟩
                go_wp2_with fail
                refine (CZt.out _).mono ?_
                rintro e w3 ⟨rfl, rfl⟩
                go_wp2
                go_ret2
                exact ⟨rfl, HB2.out⟩
              | false =>
                have := HDX.out rfl
                omega
            · have hi3 : ¬ (z : Int) < (x : Int) := by omega
              have hr : R = (spanN x z, 0) := by rw [← HRZ2.out, if_neg (by omega)]
              clear HRZ2
              obtain ⟨a, rfl⟩ : ∃ a, x = a + 1 := ⟨x - 1, by omega⟩
              have hca : ((a + 1 : Nat) : Int) = (a : Int) + 1 := by omega
              have CX' := CX.out
              rw [hca] at CX' hi1 hi3 hxb
              have CX2 := hid CX'
              clear CX'
              cases d with
              | true =>
                have CZt := hid (CZ.out rfl)
                go_wp2_with fail
                refine (CC.out _).mono ?_
                rintro e w2 ⟨rfl, q, hw2⟩
                have HB2 : Hid (Below w.heap.size w w2) := hid (by rw [hw2]; exact below_drewN (Below.refl _ _) q)
                clear hw2
                go_wp2_with fail
                refine (CX2.out _).mono ?_
                rintro e w3 ⟨rfl, rfl⟩
                go_wp2_with fail
                refine (CZt.out _).mono ?_
                rintro e w3 ⟨rfl, rfl⟩
                go_wp2
                have HRS := hid hr
                clear hr
                go_loopw [12, 13] (fun sv iv wr => ∃ v : Nat, iv = .int .i64 ((v : Int) + 1) ∧ a ≤ v ∧ v ≤ z ∧ sv = .int .i64 ((spanN (a + 1) v : Nat) : Int) ∧ Hid (Below w.heap.size w wr)) (fun _ iv _ => z + 1 - (RowKit.intOf iv).toNat)
                case atStart => exact ⟨a, rfl, by omega, by omega, by rw [span_self]; rfl, HB2⟩
                case round =>
                  obtain ⟨v, rfl, hv1, hv2, rfl, hB⟩ := hrel
                  by_cases hvz : v < z
                  · have hvi : (v : Int) + 1 ≤ (z : Int) := by omega
                    have e1 : IntKind.i64.wrap ((v : Int) + 1 - 1) = (v : Int) := by rw [Int.add_sub_cancel]; exact IntWalk.i64_in _ (by omega)
                    have hor := span_step a v hv1 (by omega)
                    have hpj := powI v (by omega)
                    go_wp2
                    go_roundw
                    case rel => exact ⟨v + 1, by simp, by omega, by omega, rfl, hB⟩
                    case measure => simp [RowKit.intOf]; omega
                  · have hvi : ¬ (v : Int) + 1 ≤ (z : Int) := by omega
                    obtain rfl : v = z := by omega
                    go_wp2
                    go_ret2
                    exact ⟨by rw [HRS.out]; rfl, hB.out⟩
              | false =>
                obtain rfl : z = a + 1 := HDX.out rfl
                go_wp2_with fail
                refine (CC.out _).mono ?_
                rintro e w2 ⟨rfl, q, hw2⟩
                have HB2 : Hid (Below w.heap.size w w2) := hid (by rw [hw2]; exact below_drewN (Below.refl _ _) q)
                clear hw2
                rw [hca] at hi2 hi3 hzb
                go_wp2_with fail
                refine (CX2.out _).mono ?_
                rintro e w3 ⟨rfl, rfl⟩
                go_wp2
                have HRS := hid hr
                clear hr
                go_loopw [12, 13] (fun sv iv wr => ∃ v : Nat, iv = .int .i64 ((v : Int) + 1) ∧ a ≤ v ∧ v ≤ a + 1 ∧ sv = .int .i64 ((spanN (a + 1) v : Nat) : Int) ∧ Hid (Below w.heap.size w wr)) (fun _ iv _ => a + 2 - (RowKit.intOf iv).toNat)
                case atStart => exact ⟨a, rfl, by omega, by omega, by rw [span_self]; rfl, HB2⟩
                case round =>
                  obtain ⟨v, rfl, hv1, hv2, rfl, hB⟩ := hrel
                  by_cases hvz : v < a + 1
                  · have hvi : (v : Int) + 1 ≤ (a : Int) + 1 := by omega
                    have hvi2 : (v : Int) ≤ (a : Int) := by omega
                    have e1 : IntKind.i64.wrap ((v : Int) + 1 - 1) = (v : Int) := by rw [Int.add_sub_cancel]; exact IntWalk.i64_in _ (by omega)
                    have hor := span_step a v hv1 (by omega)
                    have hpj := powI v (by omega)
                    go_wp2
                    go_roundw
                    case rel => exact ⟨v + 1, by simp, by omega, by omega, rfl, hB⟩
                    case measure => simp [RowKit.intOf]; omega
                  · have hvi : ¬ (v : Int) + 1 ≤ (a : Int) + 1 := by omega
                    have hvi2 : ¬ (v : Int) ≤ (a : Int) := by omega
                    obtain rfl : v = a + 1 := by omega
                    go_wp2
                    go_ret2
                    exact ⟨by rw [HRS.out]; rfl, hB.out⟩
end Go.Proofs.YtmmphjpakoimcaaDoor
