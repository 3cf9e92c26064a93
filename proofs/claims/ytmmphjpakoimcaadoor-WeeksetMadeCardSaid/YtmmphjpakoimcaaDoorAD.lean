/-
  The specification's Format. Conditions: the words lie in memory as the text says.
-/
import Derived.Test.YtmmphjpakoimcaaDoorAC
set_option linter.unusedVariables false
namespace Go.Proofs.YtmmphjpakoimcaaDoor
open Go Go.Proofs Go.RowKit Go.Lib

def FormOut (r : Str × Int) (w : World) (e : Ending) (w' : World) : Prop := e = .returned (.tuple #[.string (ba r.1), .int .i64 r.2]) ∧ Below w.heap.size w w'
theorem items_facts {s n : Nat} (hn : n ≤ 20) : (∀ x ∈ itemsF s 0 n, x ≠ [] ∧ x.length ≤ 5) ∧ (itemsF s 0 n).length ≤ 20 := by
  refine ⟨fun x hx => ?_, ?_⟩
  · unfold itemsF at hx
    obtain ⟨r, _, rfl⟩ := List.mem_map.1 hx
    exact ⟨itemT_ne _ _, itemT_len _ _⟩
  · unfold itemsF
    rw [List.length_map]
    have h1 := runs_len _ (wF s 0 n) (Nat.le_refl _)
    rw [wF_all] at h1 ⊢
    have := weeksP_len s n
    omega
theorem done_facts {s n i : Nat} {done : List Str} (hn : n ≤ 20) (h : itemsF s 0 n = done ++ itemsF s i (n - i)) : (joinC done).length ≤ 120 ∧ (done ≠ [] → joinC done ≠ []) := by
  obtain ⟨f1, f2⟩ := items_facts (s := s) hn
  have hm : ∀ x ∈ done, x ∈ itemsF s 0 n := fun x hx => by rw [h]; exact List.mem_append_left _ hx
  have hl : done.length ≤ 20 := by rw [h, List.length_append] at f2; omega
  refine ⟨?_, fun hne => joinC_ne done (fun x hx => (f1 x (hm x hx)).1) hne⟩
  have := joinC_len done (fun x hx => (f1 x (hm x hx)).2)
  omega
theorem valid_nat {S N : Int} (h : validM S N = true) : ∃ s n : Nat, S = (s : Int) ∧ N = (n : Int) ∧ 1 ≤ n ∧ n ≤ 20 ∧ 1 ≤ s ∧ s < 2 ^ n := by
  have h := of_decide_eq_true h
  obtain ⟨n, rfl⟩ := natN (show 0 ≤ N by omega)
  obtain ⟨s, rfl⟩ := natN (show 0 ≤ S by omega)
  rw [Int.toNat_natCast] at h
  have e : (2 : Int) ^ n = ((2 ^ n : Nat) : Int) := by rw [Int.natCast_pow]; rfl
  exact ⟨s, n, rfl, rfl, by omega, by omega, by omega, by omega⟩
theorem formM_yes {s n : Nat} (h : validM (s : Int) (n : Int) = true) : formM (s : Int) (n : Int) = (formN s n, 0) := by
  unfold formM
  rw [if_pos h, Int.toNat_natCast, Int.toNat_natCast]
theorem step_items {s n i : Nat} {done : List Str} (hi : i < n) (hb : bitB s i = true) (h : itemsF s 0 n = done ++ itemsF s i (n - i)) :
    itemsF s 0 n = (done ++ [itemT (i + 1) (i + 1 + cB s (i + 1) (n - i - 1))]) ++ itemsF s (i + 1 + cB s (i + 1) (n - i - 1)) (n - (i + 1 + cB s (i + 1) (n - i - 1))) := by
  obtain ⟨k, hk⟩ : ∃ k, n - i = k + 1 := ⟨n - i - 1, by omega⟩
  rw [hk, items_yes hb] at h
  rw [hk, Nat.add_sub_cancel, h, List.append_assoc]
  congr 2
  congr 1
  omega

set_option maxHeartbeats 8000000 in
set_option maxRecDepth 100000 in
theorem rformat_any (S N : Int) (w : World) (hE : Words w) : Calls Tryd.prog 11 #[.int .i64 S, .int .i64 N] w (FormOut (formM S N) w) := by
  have cV := rvalid_any S N
  cases hv : validM S N with
  | false =>
    have : formM S N = ([], 1) := by unfold formM; rw [if_neg (by rw [hv]; simp)]
    rw [this]
    rw [hv] at cV
    clear hv this
    go_enter Tryd.func11, Tryd.ntmps11
    go_wp2_with fail
    refine (cV _).mono ?_
    rintro e w' ⟨rfl, q, rfl⟩
    go_wp2
    go_ret2
    exact ⟨rfl, below_drewN (Below.refl _ _) q⟩
  | true =>
    obtain ⟨s, n, rfl, rfl, hn1, hn2, hs1, hs2⟩ := valid_nat hv
    rw [formM_yes hv]
    rw [hv] at cV
    obtain ⟨R, hR⟩ : ∃ R, formN s n = R := ⟨_, rfl⟩
    rw [hR]
    have HR := hid hR
    have HE := hid hE
    have cN := hid (fun k hk w => rnamed_any k n hk hn1 hn2 w)
    have cD := hid rdec_any
    have hss : s < 1048576 := Nat.lt_of_lt_of_le hs2 (pow_le (show n ≤ 20 by omega))
    clear hR hE hv
    go_enter Tryd.func11, Tryd.ntmps11
    go_wp2_with fail
    refine (cV _).mono ?_
    rintro e w1 ⟨rfl, q, hw1⟩
    have HB1 : Hid (Below w.heap.size w w1) := hid (by rw [hw1]; exact below_drewN (Below.refl _ _) q)
    have HE1 : Hid (Words w1) := hid (by
      intro k hk
      have := HE.out k hk
      rw [hw1]
      exact this)
    clear hw1 cV
    go_wp2
    go_loopw [6] (fun iv wr => ∃ k : Nat, iv = .int .i64 (k : Int) ∧ k ≤ 5 ∧ Hid (∀ i, i < k → nmM i n ≠ s) ∧ Hid (wr = w1)) (fun iv _ => 5 - (RowKit.intOf iv).toNat)
    case atStart => exact ⟨0, rfl, by omega, hid (fun i hi => absurd hi (by omega)), by trivial⟩
    case round =>
      obtain ⟨k, rfl, hk, hne, hw⟩ := hrel
      obtain rfl : w1 = wr := hw.out.symm
      by_cases hlt : k < 5
      · have hltz : (k : Int) < 5 := by omega
        have cK := hid (cN.out k hlt)
        by_cases he : nmM k n = s
        · obtain rfl : R = wordS k := by
            rw [← HR.out]
            unfold formN
            rw [nameK_some hlt he hne.out]
          have hbe : ((s : Int) == ((nmM k n : Nat) : Int)) = true := by rw [he]; simp
          have hc := HE1.out k hlt
          rw [show (⟨(wordS k).toArray⟩ : ByteArray) = ba (wordS k) from rfl] at hc
          clear he HR
          go_wp2_with fail
          refine (cK.out _).mono ?_
          rintro e w' ⟨rfl, rfl⟩
          go_wp2
          go_ret2
          exact ⟨rfl, HB1.out⟩
        · have hbe : ((s : Int) == ((nmM k n : Nat) : Int)) = false := by simp; omega
          have hnx : Hid (∀ i, i < k + 1 → nmM i n ≠ s) := hid (fun i hi => by
            rcases Nat.lt_or_ge i k with h | h
            · exact hne.out i h
            · obtain rfl : i = k := by omega
              exact he)
          clear he
          go_wp2_with fail
          refine (cK.out _).mono ?_
          rintro e w' ⟨rfl, rfl⟩
          go_wp2
          go_roundw
          case rel => exact ⟨k + 1, by go_num, by omega, hnx, by trivial⟩
          case measure => simp [RowKit.intOf]; omega
      · obtain rfl : k = 5 := by omega
        have HRT : Hid (joinC (itemsF s 0 n) = R) := hid (by
          rw [← HR.out]
          unfold formN
          rw [nameK_none hne.out, textM_items hs2 hn2])
        clear hne HR hlt cN
        go_wp2
        go_loopw [7, 8] (fun ov iv wr => ∃ (i : Nat) (done : List Str), iv = .int .i64 ((i : Int) + 1) ∧ ov = .string (ba (joinC done)) ∧ Hid (itemsF s 0 n = done ++ itemsF s i (n - i)) ∧ Hid (Below w.heap.size w wr)) (fun _ iv _ => n + 1 - (RowKit.intOf iv).toNat)
        case atStart => exact ⟨0, [], rfl, rfl, hid rfl, HB1⟩
        case round =>
          obtain ⟨i, done, rfl, rfl, hit, hB⟩ := hrel
          obtain ⟨wo, hwo⟩ : ∃ wo, wo = wr := ⟨_, rfl⟩
          subst hwo
          obtain ⟨d1, d2⟩ := done_facts hn2 hit.out
          by_cases hin : i < n
          · have hinz : (i : Int) + 1 ≤ (n : Int) := by omega
            have e1 : IntKind.i64.wrap ((i : Int) + 1 - 1) = (i : Int) := by rw [Int.add_sub_cancel]; exact IntWalk.i64_in _ (by omega)
            cases hbit : bitB s i with
            | false =>
              have hb0 := bit_no (by omega) hbit
              have hnx : Hid (itemsF s 0 n = done ++ itemsF s (i + 1) (n - (i + 1))) := hid (by
                have h := hit.out
                rw [show n - i = (n - (i + 1)) + 1 by omega, items_no hbit] at h
                exact h)
              obtain ⟨O, hO⟩ : ∃ O, ba (joinC done) = O := ⟨_, rfl⟩
              rw [hO]
              have HO := hid hO
              clear hbit hO d1 d2
              go_wp2
              go_roundw
              case rel => exact ⟨i + 1, done, by simp, by rw [HO.out], hnx, hB⟩
              case measure => simp [RowKit.intOf]; omega
            | true =>
              have hb1 := bit_yes (by omega) hbit
              have hnx := step_items hin hbit hit.out
              have hcl := cB_le s (n - i - 1) (i + 1)
              have hcb := cB_bit s (n - i - 1) (i + 1)
              have hce := cB_end s (n - i - 1) (i + 1)
              obtain ⟨C, hC⟩ : ∃ C, i + 1 + cB s (i + 1) (n - i - 1) = C := ⟨_, rfl⟩
              rw [hC] at hnx
              have hCn : C ≤ n := by omega
              have hCi : i + 1 ≤ C := by omega
              have hcb2 : ∀ L, i + 1 ≤ L → L < C → bitB s L = true := fun L h1 h2 => by
                have := hcb (L - (i + 1)) (by omega)
                rwa [show i + 1 + (L - (i + 1)) = L by omega] at this
              have hce2 : C < n → bitB s C = false := fun h => by
                have := hce (by omega)
                rwa [hC] at this
              have HCB := hid hcb2
              have HCE := hid hce2
              have HNX := hid hnx
              obtain ⟨O, hO⟩ : ∃ O, joinC done = O := ⟨_, rfl⟩
              rw [hO] at d1 d2 ⊢
              have HO := hid hO
              have HD2 := hid d2
              clear hbit hnx hcl hcb hce hC hcb2 hce2 hO d2
              go_wp2
              go_loopw [9] (fun iv wr2 => ∃ L : Nat, iv = .int .i64 (L : Int) ∧ i + 1 ≤ L ∧ L ≤ C ∧ Hid (wr2 = wo)) (fun iv _ => C - (RowKit.intOf iv).toNat)
              case atStart => exact ⟨i + 1, by simp, by omega, by omega, by trivial⟩
              case round =>
                obtain ⟨L, rfl, hL1, hL2, hw2⟩ := hrel
                obtain rfl : wo = wr := hw2.out.symm
                by_cases hLC : L < C
                · have hLn : (L : Int) < (n : Int) := by omega
                  have hbL := bit_yes (s := s) (by omega) (HCB.out L hL1 hLC)
                  go_wp2
                  go_roundw
                  case rel => exact ⟨L + 1, by go_num, by omega, by omega, by trivial⟩
                  case measure => simp [RowKit.intOf]; omega
                · obtain rfl : L = C := by omega
                  have cA := hid (fun w => cD.out (i + 1) (by omega) w)
                  have cB' := hid (fun w => cD.out L (by omega) w)
                  have l1 := dec2_len (i + 1)
                  have l2 := dec2_len L
                  have cA' := cA.out
                  rw [show ((i + 1 : Nat) : Int) = (i : Int) + 1 by omega] at cA'
                  have hnew : ∀ (P : Str), joinC (done ++ [P]) = if done = [] then P else O ++ 44 :: P := fun P => by
                    by_cases hd : done = []
                    · rw [if_pos hd, hd]; rfl
                    · rw [if_neg hd, joinC_snoc _ _ hd, HO.out]
                  have HNEW := hid hnew
                  obtain ⟨D, hD⟩ : ∃ D, dec2 (i + 1) = D := ⟨_, rfl⟩
                  obtain ⟨E, hE'⟩ : ∃ E, dec2 L = E := ⟨_, rfl⟩
                  have cB'' := cB'.out
                  rw [hD] at cA' l1
                  rw [hE'] at cB'' l2
                  have CA := hid cA'
                  have CB := hid cB''
                  have hitm : itemT (i + 1) L = if i + 1 = L then D else D ++ 45 :: E := by unfold itemT; rw [hD, hE']
                  have HITM := hid hitm
                  clear cA cA' cB' cB'' hnew hD hE' hitm
                  have stop1 : (L : Int) < (n : Int) ∧ bits .and .i64 ((s : Int) / 2 ^ L) 1 = 0 ∨ ¬ (L : Int) < (n : Int) := by
                    by_cases h : L < n
                    · exact .inl ⟨by omega, bit_no (by omega) (HCE.out h)⟩
                    · exact .inr (by omega)
                  have a1 := fun (X : Str) (hX : X.length ≤ 125) => add_ba X [44] (by rw [List.length_singleton]; omega)
                  rw [show ba [44] = (⟨#[44]⟩ : ByteArray) from rfl] at a1
                  have a2 := fun (X : Str) (hX : X.length ≤ 125) => add_ba X D (by omega)
                  have a3 := add_ba [45] E (by rw [List.length_singleton]; omega)
                  rw [show ba [45] = (⟨#[45]⟩ : ByteArray) from rfl, List.singleton_append] at a3
                  have a4 := fun (X : Str) (hX : X.length ≤ 130) => add_ba X (45 :: E) (by rw [List.length_cons]; omega)
                  have A1 := hid a1
                  have A2 := hid a2
                  have A4 := hid a4
                  clear a1 a2 a4
                  by_cases hd : done = []
                  · subst hd
                    obtain rfl : O = [] := by rw [← HO.out]; rfl
                    obtain ⟨x1, x2, x3, x4⟩ := str_yes (s := ba []) (by rw [ba_size]; simp)
                    have b2 := A2.out [] (by simp)
                    rw [List.nil_append] at b2
                    by_cases hLi : i + 1 = L
                    · subst hLi
                      have hgt : ¬ ((i : Int) + 1 < (i : Int) + 1) := by omega
                      have hfin : Hid (joinC ([] ++ [itemT (i + 1) (i + 1)]) = D) := hid (by rw [HNEW.out, if_pos rfl, HITM.out, if_pos rfl])
                      rw [show ((i + 1 : Nat) : Int) = (i : Int) + 1 by omega] at stop1 ⊢
                      rcases stop1 with ⟨st1, st2⟩ | st1
                      all_goals
                        go_wp2_with fail
                        refine (CA.out _).mono ?_
                        rintro e w3 ⟨rfl, hb3⟩
                        have HB3 := hid (hB.out.trans (hb3.mono hB.out.size))
                        clear hb3
                        go_wp2
                        go_roundw
                        case rel => exact ⟨_, _, by simp, by rw [hfin.out], HNX, HB3⟩
                        case measure => simp [RowKit.intOf]; omega
                    · have hgt : (i : Int) + 1 < (L : Int) := by omega
                      have hfin : Hid (joinC ([] ++ [itemT (i + 1) L]) = D ++ 45 :: E) := hid (by rw [HNEW.out, if_pos rfl, HITM.out, if_neg hLi])
                      have b4 := A4.out D (by omega)
                      rcases stop1 with ⟨st1, st2⟩ | st1
                      all_goals
                        go_wp2_with fail
                        refine (CA.out _).mono ?_
                        rintro e w3 ⟨rfl, hb3⟩
                        have HB3 := hid (hB.out.trans (hb3.mono hB.out.size))
                        clear hb3
                        go_wp2_with fail
                        refine (CB.out _).mono ?_
                        rintro e w4 ⟨rfl, hb4⟩
                        have HB4 := hid (HB3.out.trans (hb4.mono HB3.out.size))
                        clear hb4
                        go_wp2
                        go_roundw
                        case rel => exact ⟨_, _, rfl, by rw [hfin.out], HNX, HB4⟩
                        case measure => simp [RowKit.intOf]; omega
                  · have hOne := HD2.out hd
                    have hOs : 0 < (ba O).size := by
                      rw [ba_size]
                      exact List.length_pos_iff.2 hOne
                    obtain ⟨x1, x2, x3, x4⟩ := str_no hOs
                    have b1 := A1.out O (by omega)
                    have b2 := A2.out (O ++ [44]) (by rw [List.length_append, List.length_singleton]; omega)
                    rw [List.append_assoc, List.singleton_append] at b2
                    by_cases hLi : i + 1 = L
                    · subst hLi
                      have hgt : ¬ ((i : Int) + 1 < (i : Int) + 1) := by omega
                      have hfin : Hid (joinC (done ++ [itemT (i + 1) (i + 1)]) = O ++ 44 :: D) := hid (by rw [HNEW.out, if_neg hd, HITM.out, if_pos rfl])
                      rw [show ((i + 1 : Nat) : Int) = (i : Int) + 1 by omega] at stop1 ⊢
                      clear hOs hOne hd
                      rcases stop1 with ⟨st1, st2⟩ | st1
                      all_goals
                        go_wp2_with fail
                        refine (CA.out _).mono ?_
                        rintro e w3 ⟨rfl, hb3⟩
                        have HB3 := hid (hB.out.trans (hb3.mono hB.out.size))
                        clear hb3
                        go_wp2
                        go_roundw
                        case rel => exact ⟨_, _, by simp, by rw [hfin.out], HNX, HB3⟩
                        case measure => simp [RowKit.intOf]; omega
                    · have hgt : (i : Int) + 1 < (L : Int) := by omega
                      have hfin : Hid (joinC (done ++ [itemT (i + 1) L]) = O ++ 44 :: (D ++ 45 :: E)) := hid (by rw [HNEW.out, if_neg hd, HITM.out, if_neg hLi])
                      have b4 := A4.out (O ++ 44 :: D) (by rw [List.length_append, List.length_cons]; omega)
                      rw [List.append_assoc, List.cons_append] at b4
                      clear hOs hOne hd
                      rcases stop1 with ⟨st1, st2⟩ | st1
                      all_goals
                        go_wp2_with fail
                        refine (CA.out _).mono ?_
                        rintro e w3 ⟨rfl, hb3⟩
                        have HB3 := hid (hB.out.trans (hb3.mono hB.out.size))
                        clear hb3
                        go_wp2_with fail
                        refine (CB.out _).mono ?_
                        rintro e w4 ⟨rfl, hb4⟩
                        have HB4 := hid (HB3.out.trans (hb4.mono HB3.out.size))
                        clear hb4
                        go_wp2
                        go_roundw
                        case rel => exact ⟨_, _, rfl, by rw [hfin.out], HNX, HB4⟩
                        case measure => simp [RowKit.intOf]; omega
          · have hinz : ¬ (i : Int) + 1 ≤ (n : Int) := by omega
            obtain rfl : joinC done = R := by
              rw [← HRT.out]
              have h := hit.out
              rw [show n - i = 0 by omega] at h
              rw [h]
              show joinC done = joinC (done ++ (runs []).map _)
              rw [runs_nil]
              simp
            obtain ⟨O, hO⟩ : ∃ O, ba (joinC done) = O := ⟨_, rfl⟩
            rw [hO]
            have HO := hid hO
            clear hO d1 d2
            go_wp2
            go_ret2
            refine ⟨?_, hB.out⟩
            show _ = Ending.returned (.tuple #[.string (ba (joinC done)), .int .i64 0])
            rw [HO.out]
            rfl
end Go.Proofs.YtmmphjpakoimcaaDoor
