/-
  The specification's Format. Conditions: the words lie in memory as the text says.
  The program's Format. Conditions: the table of names holds what its text lays.
-/
import Derived.Test.YtnpfmoalgphkcaaGreatDoorMM01
import Derived.Test.YtnpfmoalgphkcaaGreatDoorMM02
import Derived.Test.YtnpfmoalgphkcaaGreatDoorMM03
import Derived.Test.YtnpfmoalgphkcaaGreatDoorMM04
import Derived.Test.YtnpfmoalgphkcaaGreatDoorMM05
import Derived.Test.YtnpfmoalgphkcaaGreatDoorMM06
import Derived.Test.YtnpfmoalgphkcaaGreatDoorMM07
import Derived.Test.YtnpfmoalgphkcaaGreatDoorProg
import Derived.WalkKit
import Derived.WalkSpells
import Derived.WalkLawsBesides
import Derived.Lib.Hide
import Derived.Deep.QuietTactic
import Derived.BigQuiet
import Derived.Laws.Rows
import Derived.OwnWalk
import Derived.Lib.BufferWrite
import Derived.Lib.UnsafeStr
import Derived.Laws.IdiomStrings
import Derived.Laws.BytesArg
import Derived.Laws.BytesString
import Derived.Laws.OwnMore
import Derived.Lib.IndexLaws
import Derived.Lib.ItoaNum
import Derived.Lib.Atoi
import Derived.Laws.BitsAllLaws
import Derived.Laws.BitsLemmas
import Derived.Deep.MidRow
import Derived.Shelf.Strings.Builder1
import Derived.Shelf.Strings.Builder2
import Derived.Shelf.Strings.OnBuilder
import Derived.Shelf.Strings.BuilderF
import Derived.Shelf.Strings.BuilderK
import Derived.Shelf.Strings.Builder2Cap
import Derived.Shelf.Strconv.Atoi
import Derived.Shelf.Strconv.Itoa0
import Derived.Shelf.Strconv.Itoa1
import Derived.Shelf.LaysM
import Derived.Shelf.Strconv.Itoa2
import Derived.Shelf.Strconv.Itoa3
import Derived.Shelf.Strconv.AtoiErrFast
import Derived.Shelf.Strconv.ParseIntEmpty
import Derived.Shelf.Strconv.AtoiFail
import Derived.Shelf.Strconv.Clone
import Derived.Shelf.Strconv.SyntaxError
import Derived.Shelf.LaysC
import Derived.Shelf.Strconv.ToError
import Derived.Shelf.Strconv.AtoiErr
import Derived.Shelf.Strings.Search1
import Derived.Shelf.Strings.Search2
import Derived.Shelf.Strings.Search3
import Derived.Shelf.Strings.Cut
import Derived.Shelf.Strings.Shaped
import Derived.Shelf.Strings.Prefix
import Derived.Shelf.Unicode.DecodeSlow
import Derived.Shelf.Strings.BuilderCap
import Derived.Lib.AtoiErrMem
import Derived.Handy
import Derived.Deep.RegionLaw
import Derived.Deep.RegionHeld3
set_option linter.unusedVariables false
namespace Go.Proofs.YtnpfmoalgphkcaaGreatDoor
open Go Go.Proofs Go.RowKit Go.Lib
def FormOut (r : Str × Int) (w : World) (e : Ending) (w' : World) : Prop := e = .returned (.tuple #[.string (ba r.1), .int .i64 r.2]) ∧ Below w.heap.size w w'
theorem items_facts {s n : Nat} (hn : n ≤ 20) : (∀ x ∈ itemsF s 0 n, x ≠ [] ∧ x.length ≤ 5) ∧ (itemsF s 0 n).length ≤ 20 := by
  refine ⟨fun x hx => ?_, ?_⟩
  · unfold itemsF at hx
    obtain ⟨r, _, rfl⟩ := List.mem_map.1 hx
    exact ⟨itemT_ne _ _, itemT_len _ _⟩
  · unfold itemsF
    rw [List.length_map]
    have h1 := runs_len _ (wF s 0 n) (Nat.le_refl _)
    rw [wF_all] at h1 ⊢
    have := weeksP_len s n
    omega
theorem done_facts {s n i : Nat} {done : List Str} (hn : n ≤ 20) (h : itemsF s 0 n = done ++ itemsF s i (n - i)) : (joinC done).length ≤ 120 ∧ (done ≠ [] → joinC done ≠ []) := by
  obtain ⟨f1, f2⟩ := items_facts (s := s) hn
  have hm : ∀ x ∈ done, x ∈ itemsF s 0 n := fun x hx => by rw [h]; exact List.mem_append_left _ hx
  have hl : done.length ≤ 20 := by rw [h, List.length_append] at f2; omega
  refine ⟨?_, fun hne => joinC_ne done (fun x hx => (f1 x (hm x hx)).1) hne⟩
  have := joinC_len done (fun x hx => (f1 x (hm x hx)).2)
  omega
theorem valid_nat {S N : Int} (h : validM S N = true) : ∃ s n : Nat, S = (s : Int) ∧ N = (n : Int) ∧ 1 ≤ n ∧ n ≤ 20 ∧ 1 ≤ s ∧ s < 2 ^ n := by
  have h := of_decide_eq_true h
  obtain ⟨n, rfl⟩ := natN (show 0 ≤ N by omega)
  obtain ⟨s, rfl⟩ := natN (show 0 ≤ S by omega)
  rw [Int.toNat_natCast] at h
  have e : (2 : Int) ^ n = ((2 ^ n : Nat) : Int) := by rw [Int.natCast_pow]; rfl
  exact ⟨s, n, rfl, rfl, by omega, by omega, by omega, by omega⟩
theorem formM_yes {s n : Nat} (h : validM (s : Int) (n : Int) = true) : formM (s : Int) (n : Int) = (formN s n, 0) := by
  unfold formM
  rw [if_pos h, Int.toNat_natCast, Int.toNat_natCast]
theorem step_items {s n i : Nat} {done : List Str} (hi : i < n) (hb : bitB s i = true) (h : itemsF s 0 n = done ++ itemsF s i (n - i)) :
    itemsF s 0 n = (done ++ [itemT (i + 1) (i + 1 + cB s (i + 1) (n - i - 1))]) ++ itemsF s (i + 1 + cB s (i + 1) (n - i - 1)) (n - (i + 1 + cB s (i + 1) (n - i - 1))) := by
  obtain ⟨k, hk⟩ : ∃ k, n - i = k + 1 := ⟨n - i - 1, by omega⟩
  rw [hk, items_yes hb] at h
  rw [hk, Nat.add_sub_cancel, h, List.append_assoc]
  congr 2
  congr 1
  omega
set_option maxHeartbeats 8000000 in
set_option maxRecDepth 100000 in
theorem rformat_any (S N : Int) (w : World) (hE : Words w) : Calls Tryz.prog 80 #[.int .i64 S, .int .i64 N] w (FormOut (formM S N) w) := by
  have cV := rvalid_any S N
  cases hv : validM S N with
  | false =>
    have : formM S N = ([], 1) := by unfold formM; rw [if_neg (by rw [hv]; simp)]
    rw [this]
    rw [hv] at cV
    clear hv this
    go_enter Tryz.func80, Tryz.ntmps80
    go_wp2_with fail
    refine (cV _).mono ?_
    rintro e w' ⟨rfl, q, rfl⟩
    go_wp2
    go_ret2
    exact ⟨rfl, below_drewN (Below.refl _ _) q⟩
  | true =>
    obtain ⟨s, n, rfl, rfl, hn1, hn2, hs1, hs2⟩ := valid_nat hv
    rw [formM_yes hv]
    rw [hv] at cV
    obtain ⟨R, hR⟩ : ∃ R, formN s n = R := ⟨_, rfl⟩
    rw [hR]
    have HR := hid hR
    have HE := hid hE
    have cN := hid (fun k hk w => rnamed_any k n hk hn1 hn2 w)
    have cD := hid rdec_any
    have hss : s < 1048576 := Nat.lt_of_lt_of_le hs2 (pow_le (show n ≤ 20 by omega))
    clear hR hE hv
    go_enter Tryz.func80, Tryz.ntmps80
    go_wp2_with fail
    refine (cV _).mono ?_
    rintro e w1 ⟨rfl, q, hw1⟩
    have HB1 : Hid (Below w.heap.size w w1) := hid (by rw [hw1]; exact below_drewN (Below.refl _ _) q)
    have HE1 : Hid (Words w1) := hid (by
      intro k hk
      have := HE.out k hk
      rw [hw1]
      exact this)
    clear hw1 cV
    go_wp2
    go_loopw [6] (fun iv wr => ∃ k : Nat, iv = .int .i64 (k : Int) ∧ k ≤ 5 ∧ Hid (∀ i, i < k → nmM i n ≠ s) ∧ Hid (wr = w1)) (fun iv _ => 5 - (RowKit.intOf iv).toNat)
    case atStart => exact ⟨0, rfl, by omega, hid (fun i hi => absurd hi (by omega)), by trivial⟩
    case round =>
      obtain ⟨k, rfl, hk, hne, hw⟩ := hrel
      obtain rfl : w1 = wr := hw.out.symm
      by_cases hlt : k < 5
      · have hltz : (k : Int) < 5 := by omega
        have cK := hid (cN.out k hlt)
        by_cases he : nmM k n = s
        · obtain rfl : R = wordS k := by
            rw [← HR.out]
            unfold formN
            rw [nameK_some hlt he hne.out]
          have hbe : ((s : Int) == ((nmM k n : Nat) : Int)) = true := by rw [he]; simp
          have hc := HE1.out k hlt
          rw [show (⟨(wordS k).toArray⟩ : ByteArray) = ba (wordS k) from rfl] at hc
          clear he HR
          go_wp2_with fail
          refine (cK.out _).mono ?_
          rintro e w' ⟨rfl, rfl⟩
          go_wp2
          go_ret2
          exact ⟨rfl, HB1.out⟩
        · have hbe : ((s : Int) == ((nmM k n : Nat) : Int)) = false := by simp; omega
          have hnx : Hid (∀ i, i < k + 1 → nmM i n ≠ s) := hid (fun i hi => by
            rcases Nat.lt_or_ge i k with h | h
            · exact hne.out i h
            · obtain rfl : i = k := by omega
              exact he)
          clear he
          go_wp2_with fail
          refine (cK.out _).mono ?_
          rintro e w' ⟨rfl, rfl⟩
          go_wp2
          go_roundw
          case rel => exact ⟨k + 1, by go_num, by omega, hnx, by trivial⟩
          case measure => simp [RowKit.intOf]; omega
      · obtain rfl : k = 5 := by omega
        have HRT : Hid (joinC (itemsF s 0 n) = R) := hid (by
          rw [← HR.out]
          unfold formN
          rw [nameK_none hne.out, textM_items hs2 hn2])
        clear hne HR hlt cN
        go_wp2
        go_loopw [7, 8] (fun ov iv wr => ∃ (i : Nat) (done : List Str), iv = .int .i64 ((i : Int) + 1) ∧ ov = .string (ba (joinC done)) ∧ Hid (itemsF s 0 n = done ++ itemsF s i (n - i)) ∧ Hid (Below w.heap.size w wr)) (fun _ iv _ => n + 1 - (RowKit.intOf iv).toNat)
        case atStart => exact ⟨0, [], rfl, rfl, hid rfl, HB1⟩
        case round =>
          obtain ⟨i, done, rfl, rfl, hit, hB⟩ := hrel
          obtain ⟨wo, hwo⟩ : ∃ wo, wo = wr := ⟨_, rfl⟩
          subst hwo
          obtain ⟨d1, d2⟩ := done_facts hn2 hit.out
          by_cases hin : i < n
          · have hinz : (i : Int) + 1 ≤ (n : Int) := by omega
            have e1 : IntKind.i64.wrap ((i : Int) + 1 - 1) = (i : Int) := by rw [Int.add_sub_cancel]; exact IntWalk.i64_in _ (by omega)
            cases hbit : bitB s i with
            | false =>
              have hb0 := bit_no (by omega) hbit
              have hnx : Hid (itemsF s 0 n = done ++ itemsF s (i + 1) (n - (i + 1))) := hid (by
                have h := hit.out
                rw [show n - i = (n - (i + 1)) + 1 by omega, items_no hbit] at h
                exact h)
              obtain ⟨O, hO⟩ : ∃ O, ba (joinC done) = O := ⟨_, rfl⟩
              rw [hO]
              have HO := hid hO
              clear hbit hO d1 d2
              go_wp2
              go_roundw
              case rel => exact ⟨i + 1, done, by simp, by rw [HO.out], hnx, hB⟩
              case measure => simp [RowKit.intOf]; omega
            | true =>
              have hb1 := bit_yes (by omega) hbit
              have hnx := step_items hin hbit hit.out
              have hcl := cB_le s (n - i - 1) (i + 1)
              have hcb := cB_bit s (n - i - 1) (i + 1)
              have hce := cB_end s (n - i - 1) (i + 1)
              obtain ⟨C, hC⟩ : ∃ C, i + 1 + cB s (i + 1) (n - i - 1) = C := ⟨_, rfl⟩
              rw [hC] at hnx
              have hCn : C ≤ n := by omega
              have hCi : i + 1 ≤ C := by omega
              have hcb2 : ∀ L, i + 1 ≤ L → L < C → bitB s L = true := fun L h1 h2 => by
                have := hcb (L - (i + 1)) (by omega)
                rwa [show i + 1 + (L - (i + 1)) = L by omega] at this
              have hce2 : C < n → bitB s C = false := fun h => by
                have := hce (by omega)
                rwa [hC] at this
              have HCB := hid hcb2
              have HCE := hid hce2
              have HNX := hid hnx
              obtain ⟨O, hO⟩ : ∃ O, joinC done = O := ⟨_, rfl⟩
              rw [hO] at d1 d2 ⊢
              have HO := hid hO
              have HD2 := hid d2
              clear hbit hnx hcl hcb hce hC hcb2 hce2 hO d2
              go_wp2
              go_loopw [9] (fun iv wr2 => ∃ L : Nat, iv = .int .i64 (L : Int) ∧ i + 1 ≤ L ∧ L ≤ C ∧ Hid (wr2 = wo)) (fun iv _ => C - (RowKit.intOf iv).toNat)
              case atStart => exact ⟨i + 1, by simp, by omega, by omega, by trivial⟩
              case round =>
                obtain ⟨L, rfl, hL1, hL2, hw2⟩ := hrel
                obtain rfl : wo = wr := hw2.out.symm
                by_cases hLC : L < C
                · have hLn : (L : Int) < (n : Int) := by omega
                  have hbL := bit_yes (s := s) (by omega) (HCB.out L hL1 hLC)
                  go_wp2
                  go_roundw
                  case rel => exact ⟨L + 1, by go_num, by omega, by omega, by trivial⟩
                  case measure => simp [RowKit.intOf]; omega
                · obtain rfl : L = C := by omega
                  have cA := hid (fun w => cD.out (i + 1) (by omega) w)
                  have cB' := hid (fun w => cD.out L (by omega) w)
                  have l1 := dec2_len (i + 1)
                  have l2 := dec2_len L
                  have cA' := cA.out
                  rw [show ((i + 1 : Nat) : Int) = (i : Int) + 1 by omega] at cA'
                  have hnew : ∀ (P : Str), joinC (done ++ [P]) = if done = [] then P else O ++ 44 :: P := fun P => by
                    by_cases hd : done = []
                    · rw [if_pos hd, hd]; rfl
                    · rw [if_neg hd, joinC_snoc _ _ hd, HO.out]
                  have HNEW := hid hnew
                  obtain ⟨D, hD⟩ : ∃ D, dec2 (i + 1) = D := ⟨_, rfl⟩
                  obtain ⟨E, hE'⟩ : ∃ E, dec2 L = E := ⟨_, rfl⟩
                  have cB'' := cB'.out
                  rw [hD] at cA' l1
                  rw [hE'] at cB'' l2
                  have CA := hid cA'
                  have CB := hid cB''
                  have hitm : itemT (i + 1) L = if i + 1 = L then D else D ++ 45 :: E := by unfold itemT; rw [hD, hE']
                  have HITM := hid hitm
                  clear cA cA' cB' cB'' hnew hD hE' hitm
                  have stop1 : (L : Int) < (n : Int) ∧ bits .and .i64 ((s : Int) / 2 ^ L) 1 = 0 ∨ ¬ (L : Int) < (n : Int) := by
                    by_cases h : L < n
                    · exact .inl ⟨by omega, bit_no (by omega) (HCE.out h)⟩
                    · exact .inr (by omega)
                  have a1 := fun (X : Str) (hX : X.length ≤ 125) => add_ba X [44] (by rw [List.length_singleton]; omega)
                  rw [show ba [44] = (⟨#[44]⟩ : ByteArray) from rfl] at a1
                  have a2 := fun (X : Str) (hX : X.length ≤ 125) => add_ba X D (by omega)
                  have a3 := add_ba [45] E (by rw [List.length_singleton]; omega)
                  rw [show ba [45] = (⟨#[45]⟩ : ByteArray) from rfl, List.singleton_append] at a3
                  have a4 := fun (X : Str) (hX : X.length ≤ 130) => add_ba X (45 :: E) (by rw [List.length_cons]; omega)
                  have A1 := hid a1
                  have A2 := hid a2
                  have A4 := hid a4
                  clear a1 a2 a4
                  by_cases hd : done = []
                  · subst hd
                    obtain rfl : O = [] := by rw [← HO.out]; rfl
                    obtain ⟨x1, x2, x3, x4⟩ := str_yes (s := ba []) (by rw [ba_size]; simp)
                    have b2 := A2.out [] (by simp)
                    rw [List.nil_append] at b2
                    by_cases hLi : i + 1 = L
                    · subst hLi
                      have hgt : ¬ ((i : Int) + 1 < (i : Int) + 1) := by omega
                      have hfin : Hid (joinC ([] ++ [itemT (i + 1) (i + 1)]) = D) := hid (by rw [HNEW.out, if_pos rfl, HITM.out, if_pos rfl])
                      rw [show ((i + 1 : Nat) : Int) = (i : Int) + 1 by omega] at stop1 ⊢
                      rcases stop1 with ⟨st1, st2⟩ | st1
                      all_goals
                        go_wp2_with fail
                        refine (CA.out _).mono ?_
                        rintro e w3 ⟨rfl, hb3⟩
                        have HB3 := hid (hB.out.trans (hb3.mono hB.out.size))
                        clear hb3
                        go_wp2
                        go_roundw
                        case rel => exact ⟨_, _, by simp, by rw [hfin.out], HNX, HB3⟩
                        case measure => simp [RowKit.intOf]; omega
                    · have hgt : (i : Int) + 1 < (L : Int) := by omega
                      have hfin : Hid (joinC ([] ++ [itemT (i + 1) L]) = D ++ 45 :: E) := hid (by rw [HNEW.out, if_pos rfl, HITM.out, if_neg hLi])
                      have b4 := A4.out D (by omega)
                      rcases stop1 with ⟨st1, st2⟩ | st1
                      all_goals
                        go_wp2_with fail
                        refine (CA.out _).mono ?_
                        rintro e w3 ⟨rfl, hb3⟩
                        have HB3 := hid (hB.out.trans (hb3.mono hB.out.size))
                        clear hb3
                        go_wp2_with fail
                        refine (CB.out _).mono ?_
                        rintro e w4 ⟨rfl, hb4⟩
                        have HB4 := hid (HB3.out.trans (hb4.mono HB3.out.size))
                        clear hb4
                        go_wp2
                        go_roundw
                        case rel => exact ⟨_, _, rfl, by rw [hfin.out], HNX, HB4⟩
                        case measure => simp [RowKit.intOf]; omega
                  · have hOne := HD2.out hd
                    have hOs : 0 < (ba O).size := by
                      rw [ba_size]
                      exact List.length_pos_iff.2 hOne
                    obtain ⟨x1, x2, x3, x4⟩ := str_no hOs
                    have b1 := A1.out O (by omega)
                    have b2 := A2.out (O ++ [44]) (by rw [List.length_append, List.length_singleton]; omega)
                    rw [List.append_assoc, List.singleton_append] at b2
                    by_cases hLi : i + 1 = L
                    · subst hLi
                      have hgt : ¬ ((i : Int) + 1 < (i : Int) + 1) := by omega
                      have hfin : Hid (joinC (done ++ [itemT (i + 1) (i + 1)]) = O ++ 44 :: D) := hid (by rw [HNEW.out, if_neg hd, HITM.out, if_pos rfl])
                      rw [show ((i + 1 : Nat) : Int) = (i : Int) + 1 by omega] at stop1 ⊢
                      clear hOs hOne hd
                      rcases stop1 with ⟨st1, st2⟩ | st1
                      all_goals
                        go_wp2_with fail
                        refine (CA.out _).mono ?_
                        rintro e w3 ⟨rfl, hb3⟩
                        have HB3 := hid (hB.out.trans (hb3.mono hB.out.size))
                        clear hb3
                        go_wp2
                        go_roundw
                        case rel => exact ⟨_, _, by simp, by rw [hfin.out], HNX, HB3⟩
                        case measure => simp [RowKit.intOf]; omega
                    · have hgt : (i : Int) + 1 < (L : Int) := by omega
                      have hfin : Hid (joinC (done ++ [itemT (i + 1) L]) = O ++ 44 :: (D ++ 45 :: E)) := hid (by rw [HNEW.out, if_neg hd, HITM.out, if_neg hLi])
                      have b4 := A4.out (O ++ 44 :: D) (by rw [List.length_append, List.length_cons]; omega)
                      rw [List.append_assoc, List.cons_append] at b4
                      clear hOs hOne hd
                      rcases stop1 with ⟨st1, st2⟩ | st1
                      all_goals
                        go_wp2_with fail
                        refine (CA.out _).mono ?_
                        rintro e w3 ⟨rfl, hb3⟩
                        have HB3 := hid (hB.out.trans (hb3.mono hB.out.size))
                        clear hb3
                        go_wp2_with fail
                        refine (CB.out _).mono ?_
                        rintro e w4 ⟨rfl, hb4⟩
                        have HB4 := hid (HB3.out.trans (hb4.mono HB3.out.size))
                        clear hb4
                        go_wp2
                        go_roundw
                        case rel => exact ⟨_, _, rfl, by rw [hfin.out], HNX, HB4⟩
                        case measure => simp [RowKit.intOf]; omega
          · have hinz : ¬ (i : Int) + 1 ≤ (n : Int) := by omega
            obtain rfl : joinC done = R := by
              rw [← HRT.out]
              have h := hit.out
              rw [show n - i = 0 by omega] at h
              rw [h]
              show joinC done = joinC (done ++ (runs []).map _)
              rw [runs_nil]
              simp
            obtain ⟨O, hO⟩ : ∃ O, ba (joinC done) = O := ⟨_, rfl⟩
            rw [hO]
            have HO := hid hO
            clear hO d1 d2
            go_wp2
            go_ret2
            refine ⟨?_, hB.out⟩
            show _ = Ending.returned (.tuple #[.string (ba (joinC done)), .int .i64 0])
            rw [HO.out]
            rfl
theorem step_append_own {P : Program} {ops : Array Oper} {o : Oper} {a : Act} {w : World} {K : Act → World → Prop} {Q : Exit → Act → World → Prop} {E : Prop}
    (hg : o.guard = none) (s x : Operand) (t : TypeId) (hop : o.op = Op.call { callee := Callee.builtin Builtin.append, args := #[s, x], argTypes := #[t, t] })
    (B : Nat) (e : TypeId) (i : TypeInfo) (z : Value) (size bytes : Nat) (h1 : P.underlying t = some (.slice e)) (h2 : P.info? e = some i) (h3 : i.zero = some z) (h4 : i.size = size) (h5 : i.bytes = bytes) (h6 : z.cells.size = size) (h7 : 0 < size)
    (v : Value) (n : Nat) (xs : List Value) (hs : a.eval s = v) (hown : w.ownsRow B e size v n xs)
    (ad : Addr) (m c : Nat) (news : List Value) (hx : a.eval x = .slice (some ad) m c) (hn : news.length = m * size) (hc : ∀ j u, news[j]? = some u → w.cell? (ad.add j) = some u) (h1c : ∀ u ∈ news, u.oneCell' = true)
    (b1 : n + m ≤ maxLen) (b2 : (n + m) * bytes ≤ 140737488355328) (hB : B ≤ w.heap.size)
    (hK : ∀ v' w', w'.ownsRow B e size v' (n + m) (xs ++ news) → w.grownBy w' v.ownBlock → K (a.put o.dst v') w') :
    if Region.wanted o (yielded ops a.tmps) = true then Oper.wp P o a w K Q else E := by
  have hw : Region.wanted o (yielded ops a.tmps) = true := by simp [Region.wanted, hg]
  rw [if_pos hw]
  obtain ⟨v', w', hrun, r1, r2, _⟩ := run_append_own (P := P) w B t o.type e i z size bytes h1 h2 h3 h4 h5 h6 h7 v n xs hown ad m c news hn hc h1c b1 b2 hB
  unfold Oper.wp
  simp [execOp, hop, resolve, invoke, builtin, hs, hx, hrun, Result.andThen]
  exact hK v' w' r1 r2
theorem IntsIn.from {w : World} {B b off : Nat} {l : List Nat} (h : IntsIn w B (some ⟨b, off, none⟩) (castL l)) (k : Nat) (A : Option Addr) (hA : k < l.length → A = some ⟨b, off + k, none⟩) : IntsIn w B A (castL (l.drop k)) := by
  rcases Nat.lt_or_ge k l.length with hk | hk
  · rcases h with h | ⟨b', off', he, hB, hc⟩
    · have : l = [] := by unfold castL at h; simpa using h
      rw [this] at hk
      simp at hk
    · injection he with he
      injection he with h1 h2
      subst h1 h2
      refine .inr ⟨b, off + k, hA hk, hB, fun j v hv => ?_⟩
      rw [Nat.add_assoc]
      refine hc (k + j) v ?_
      unfold castL at hv ⊢
      rw [List.getElem?_map, List.getElem?_drop] at hv
      rw [List.getElem?_map]
      exact hv
  · left
    rw [List.drop_eq_nil_of_le hk]
    rfl
def itemsL (l : List Nat) : List Str := (runs l).map fun r => itemT r.1 r.2
theorem itemsL_cons (a : Nat) (r : List Nat) : itemsL (a :: r) = itemT a (a + cnt a r) :: itemsL (r.drop (cnt a r)) := by unfold itemsL; rw [runs_cons]; rfl
theorem StrRow.snoc {w : World} {B : Nat} {v : Value} {l : List Str} {x : Str} (h : w.ownsRow B 9 1 v (l.length + 1) (strVals l ++ [.string (ba x)])) : StrRow w B v (l ++ [x]) := by
  unfold StrRow
  rw [List.length_append, strVals_app]
  exact h
set_option maxHeartbeats 8000000 in
set_option maxRecDepth 100000 in
theorem format_any (S N : Int) (w : World) (hE : Names w) : Calls Tryz.prog 96 #[.int .i64 S, .int .i64 N] w (FormOut (formM S N) w) := by
  have cV := valid_any S N
  cases hv : validM S N with
  | false =>
    have : formM S N = ([], 1) := by unfold formM; rw [if_neg (by rw [hv]; simp)]
    rw [this]
    rw [hv] at cV
    clear hv this
    go_enter Tryz.func96, Tryz.ntmps96
    go_wp2_with fail
    refine (cV _).mono ?_
    rintro e w' ⟨rfl, q, rfl⟩
    go_wp2
    go_ret2
    exact ⟨rfl, below_drewN (Below.refl _ _) q⟩
  | true =>
    obtain ⟨s, n, rfl, rfl, hn1, hn2, hs1, hs2⟩ := valid_nat hv
    rw [formM_yes hv]
    rw [hv] at cV
    obtain ⟨R, hR⟩ : ∃ R, formN s n = R := ⟨_, rfl⟩
    rw [hR]
    have HR := hid hR
    have HE := hid hE
    have cO := hid (fun w h => nameOf_any s n hn1 hn2 w h)
    have hss : s < 1048576 := Nat.lt_of_lt_of_le hs2 (pow_le (show n ≤ 20 by omega))
    clear hR hE hv
    go_enter Tryz.func96, Tryz.ntmps96
    go_wp2_with fail
    refine (cV _).mono ?_
    rintro e w1 ⟨rfl, q, hw1⟩
    have HB1 : Hid (Below w.heap.size w w1) := hid (by rw [hw1]; exact below_drewN (Below.refl _ _) q)
    have HE1 : Hid (Names w1) := hid (by
      intro k v hk
      have := HE.out k v hk
      rw [hw1]
      exact this)
    clear hw1 cV
    cases hnk : nameK s n with
    | some k =>
      have c1 := cO.out w1 HE1.out
      have e1 : nameOfM s n = (wordS k, true) := by unfold nameOfM; rw [hnk]
      rw [e1] at c1
      obtain rfl : R = wordS k := by rw [← HR.out]; unfold formN; rw [hnk]
      have C1 := hid c1
      clear c1 e1 hnk HR cO
      go_wp2_with fail
      refine C1.out.mono ?_
      rintro e w2 ⟨rfl, hb2⟩
      have HB2 := hid (HB1.out.trans (hb2.mono HB1.out.size))
      clear hb2
      go_wp2
      go_ret2
      exact ⟨rfl, HB2.out⟩
    | none =>
      have c1 := cO.out w1 HE1.out
      have e1 : nameOfM s n = ([], false) := by unfold nameOfM; rw [hnk]
      rw [e1] at c1
      have HRT : Hid (joinC (itemsL (weeksP s 20)) = R) := hid (by rw [← HR.out]; unfold formN; rw [hnk]; rfl)
      have C1 := hid c1
      have hM : weeksM (s : Int) = castL (weeksP s 20) := by
        unfold weeksM setOk
        rw [if_pos (decide_eq_true ⟨by omega, by omega⟩), Int.toNat_natCast]
      have cK := hid (fun w => weeks_any (s : Int) w)
      have cK' := cK.out
      rw [hM] at cK'
      have CK := hid cK'
      have HL20 : Hid ((weeksP s 20).length ≤ 20 ∧ ∀ x ∈ weeksP s 20, x ≤ 20) := hid ⟨weeksP_len s 20, fun x hx => ((mem_weeksP s 20 x).1 hx).2.1⟩
      clear c1 e1 hnk HR cO hM cK cK'
      go_wp2_with fail
      refine C1.out.mono ?_
      rintro e w2 ⟨rfl, hb2⟩
      have HB2 := hid (HB1.out.trans (hb2.mono HB1.out.size))
      clear hb2 C1
      go_wp2_with fail
      refine (CK.out _).mono ?_
      rintro e w3 ⟨⟨v, rfl, hrow⟩, hb3⟩
      have HB3 := hid (HB2.out.trans (hb3.mono HB2.out.size))
      obtain ⟨A, c, rfl, hc1, hc2, hin⟩ := hrow.intsIn
      obtain ⟨WL, hWL⟩ : ∃ WL, weeksP s 20 = WL := ⟨_, rfl⟩
      rw [hWL] at hin hc1 HL20 HRT ⊢
      rw [castL_len] at hc1
      rw [castL_len]
      have HIN := hid hin
      clear hb3 hrow hin hWL CK
      obtain ⟨i9, hi9, hz9, hsi9, hby9⟩ := info_parts infoStr
      go_wp2
      go_loopw [8, 9] (fun v lv wr => ∃ (L : List Nat) (done : List Str) (A : Option Addr) (c : Nat), lv = .slice A L.length c ∧ L.length ≤ c ∧ c ≤ 9223372036854775807 ∧ StrRow wr w3.heap.size v done ∧ Hid (IntsIn wr w3.heap.size A (castL L)) ∧ Hid (itemsL WL = done ++ itemsL L) ∧
        (L.length + done.length ≤ 20) ∧ Hid (∀ x ∈ L, x ≤ 20) ∧ Hid (Below w3.heap.size w3 wr)) (fun _ lv _ => match lv with | .slice _ k _ => k | _ => 0)
      case atStart => exact ⟨WL, [], A, c, rfl, hc1, hc2, World.ownsRow_nil _ _ _ _, HIN, hid (by simp), by have := HL20.out.1; simp; omega, hid HL20.out.2, hid (Below.refl _ _)⟩
      case round =>
        clear HIN HL20 hc1 hc2
        obtain ⟨L, done, A, c, rfl, hc1, hc2, hrow, hin, hit, h20, hx20, hB⟩ := hrel
        cases L with
        | nil =>
          obtain rfl : joinC done = R := by
            rw [← HRT.out, hit.out]
            unfold itemsL
            rw [runs_nil]
            simp
          have hx5 : ∀ x ∈ done, x.length ≤ 5 := fun x hx => by
            have hm : x ∈ itemsL WL := by rw [hit.out]; exact List.mem_append_left _ hx
            unfold itemsL at hm
            obtain ⟨r, _, rfl⟩ := List.mem_map.1 hm
            exact itemT_len _ _
          have hBw : Hid (Below w.heap.size w wr) := hid (HB3.out.trans (hB.out.mono HB3.out.size))
          have HROW := hid hrow
          clear hrow hit HRT hin hB hx20
          cases done with
          | nil =>
            obtain ⟨AI, cI, hvI⟩ := row_slice HROW.out
            subst hvI
            have cJ := Tryz.strings_Join_none AI cI ⟨#[44]⟩
            go_wp2_with fail
            refine (cJ _).mono ?_
            rintro e w6 ⟨rfl, rfl⟩
            go_wp2
            go_ret2
            exact ⟨rfl, hBw.out⟩
          | cons y ys =>
            obtain ⟨AI, cI, hvI, hI1, hI2, hI3⟩ := HROW.out.strsIn
            subst hvI
            rcases hI3 with hI3 | ⟨bk, o, rfl, hbk, hcells⟩
            · simp at hI3
            · have hxl : (List.map ba (y :: ys)).length = (y :: ys).length := by simp
              have hmm : (List.map ba (y :: ys)).map (fun b => b.data.toList) = y :: ys := by
                rw [List.map_map]
                exact List.map_id _
              have hjl : (joinC (y :: ys)).length ≤ 140737488355328 := by
                have := joinC_len (y :: ys) hx5
                omega
              have cJ := Tryz.strings_Join bk o cI (List.map ba (y :: ys)) ⟨#[44]⟩ wr (fun j x hx => by
                rw [List.getElem?_map] at hx
                obtain ⟨z, hz, rfl⟩ := Option.map_eq_some_iff.1 hx
                exact hcells j z hz) hbk.2 (by rw [hxl]; omega) (by rw [hxl]; exact hI1) (by rw [hmm]; show (Lib.join (y :: ys) [44]).length ≤ _; rw [joinC_lib]; exact hjl)
              rw [hmm, hxl, show Lib.join (y :: ys) (⟨#[44]⟩ : ByteArray).data.toList = joinC (y :: ys) from joinC_lib _] at cJ
              rw [show (⟨(joinC (y :: ys)).toArray⟩ : ByteArray) = ba (joinC (y :: ys)) from rfl] at cJ
              obtain ⟨J, hJ⟩ : ∃ J, joinC (y :: ys) = J := ⟨_, rfl⟩
              rw [hJ] at cJ ⊢
              have CJ := hid cJ
              have HJ := hid hJ
              clear hx5 cJ hJ hjl hxl hmm hcells hbk HROW
              go_wp2_with fail
              refine CJ.out.mono ?_
              rintro e w6 ⟨rfl, hb6⟩
              have HB6 := hid (hBw.out.trans (hb6.mono hBw.out.size))
              clear hb6
              go_wp2
              go_ret2
              refine ⟨?_, HB6.out⟩
              show _ = Ending.returned (.tuple #[.string (ba (joinC (y :: ys))), .int .i64 0])
              rw [HJ.out]
              rfl
        | cons a r =>
          have ha20 := hx20.out a (by simp)
          have hle := cnt_le r a
          have cR := runAhead_any a r A c w3.heap.size (by simp at h20; omega) (by omega) wr hin.out
          obtain ⟨b, off, rfl, hcell⟩ := hin.out.cell (by simp)
          have hq : (a :: r)[cnt a r]? = some (a + cnt a r) := by
            rcases Nat.eq_zero_or_pos (cnt a r) with h0 | h0
            · rw [h0]; rfl
            · obtain ⟨j, hj⟩ : ∃ j, cnt a r = j + 1 := ⟨cnt a r - 1, by omega⟩
              rw [hj, List.getElem?_cons_succ, cnt_get r a j (by omega)]
              congr 1
              omega
          have c0 := hcell 0 a rfl
          rw [Nat.add_zero] at c0
          have c1 := hcell _ _ hq
          have hlast : a + cnt a r ≤ 20 := hx20.out _ (List.mem_of_getElem? hq)
          have hitc := itemsL_cons a r
          have hfrom := fun A' h => IntsIn.from hin.out (cnt a r + 1) A' h
          rw [List.drop_succ_cons] at hfrom
          have hx20' : ∀ x ∈ r.drop (cnt a r), x ≤ 20 := fun x hx => hx20.out x (List.mem_cons_of_mem _ (List.mem_of_mem_drop hx))
          have hdl : (r.drop (cnt a r)).length = r.length - cnt a r := List.length_drop
          obtain ⟨Q, hQ⟩ : ∃ Q, cnt a r = Q := ⟨_, rfl⟩
          rw [hQ] at cR c1 hlast hitc hfrom hx20' hdl hle
          have hit2 : itemsL WL = (done ++ [itemT a (a + Q)]) ++ itemsL (r.drop Q) := by rw [hit.out, hitc]; simp
          have cW := writeItem_any a (a + Q) (by omega) (by omega)
          obtain ⟨X, hX⟩ : ∃ X, itemT a (a + Q) = X := ⟨_, rfl⟩
          rw [hX] at cW hit2
          rw [show ((a + Q : Nat) : Int) = (a : Int) + (Q : Int) by omega] at cW c1
          have HIT := hid hit2
          have HFROM := hid hfrom
          have HX20 := hid hx20'
          have HCR := hid cR
          have HCW := hid cW
          have HC0 := hid c0
          have HC1 := hid c1
          have HDL := hid hdl
          have HROW := hid hrow
          rw [List.length_cons] at hc1 h20
          clear hQ cR hq c0 c1 hitc hfrom hx20' hdl hit2 cW hX hcell hin hit hx20 hrow
          have hpos : (0 : Int) < (r.length : Int) + 1 := by omega
          go_wp2_with fail
          refine HCR.out.mono ?_
          rintro e w5 ⟨rfl, q5, hw5⟩
          have c0 : w5.cell? ⟨b, off, none⟩ = some (.int .i64 (a : Int)) := by rw [hw5]; exact HC0.out
          have c1 : w5.cell? ⟨b, off + Q, none⟩ = some (.int .i64 ((a : Int) + (Q : Int))) := by rw [hw5]; exact HC1.out
          have HROW5 : Hid (StrRow w5 w3.heap.size _ done) := hid (by rw [hw5]; exact row_drawn HROW.out q5)
          have HFROM5 : Hid (∀ A', (Q + 1 < (a :: r).length → A' = some ⟨b, off + (Q + 1), none⟩) → IntsIn w5 w3.heap.size A' (castL (r.drop Q))) := hid (fun A' h => by rw [hw5]; exact (HFROM.out A' h).drawn q5)
          have HB5 : Hid (Below w3.heap.size w3 w5) := hid (by rw [hw5]; exact below_drewN hB.out q5)
          clear hw5 HCR HC0 HC1 HROW HFROM hB
          obtain ⟨AI, cI, hvI⟩ := row_slice HROW5.out
          subst hvI
          have e1 : IntKind.i64.wrap ((Q : Int) + 1 - 1) = (Q : Int) := by rw [Int.add_sub_cancel]; exact IntWalk.i64_in _ (by omega)
          have e2 : IntKind.i64.wrap (Q : Int) = (Q : Int) := IntWalk.i64_in _ (by omega)
          have hQr : (Q : Int) < (r.length : Int) + 1 := by omega
          have HM : Hid (done.length + 1 ≤ maxLen) := by unfold maxLen; exact hid (by omega)
          have HM2 : Hid ((done.length + 1) * 16 ≤ 140737488355328) := hid (by omega)
          have hQr2 : (Q : Int) + 1 ≤ (r.length : Int) + 1 := by omega
          have hcc : (r.length : Int) + 1 ≤ (c : Int) := by omega
          have hwq : IntKind.i64.wrap ((Q : Int) + 1) = (Q : Int) + 1 := IntWalk.i64_in _ (by omega)
          go_wp2_with fail
          go_region_law (first
            | (go_simp; go_at_call 94; refine (HCW.out _).mono ?_; rintro e w' ⟨rfl, rfl⟩)
            | (refine step_append_own ?_ (.tmp 30) (.tmp 40) 58 ?_ w3.heap.size 9 i9 (.string ⟨#[]⟩) 1 16 Tryz.underlying58 hi9 hz9 hsi9 hby9 ?_ ?_ (.slice AI done.length cI) done.length (strVals done) ?_ ?_ ⟨w5.heap.size, 0, none⟩ 1 1 [.string (ba X)] ?_ ?_ ?_ ?_ HM.out HM2.out ?_ ?_
               · rfl
               · rfl
               · rfl
               · decide
               · simp [Act.eval]
               · exact row_drawn (World.ownsRow.alloc HROW5.out _) 1
               · simp [Act.eval]
               · rfl
               · exact one_new w5 _ _
               · exact one_str _
               · exact Nat.le_trans HB5.out.size (by simp)
               intro v' w6 hown hgrow
               have hb6 : Below w3.heap.size ((w5.alloc (.cells #[.string (ba X)] 9)).drew) w6 := (Below.refl _ _).grown hgrow (Nat.le_trans HB5.out.size (by simp)) (fun k hk => (World.ownsRow.lt HROW5.out k hk).1)
               have hb5 : Below w3.heap.size w5 ((w5.alloc (.cells #[.string (ba X)] 9)).drew) := ((Below.refl _ w5).alloc HB5.out.size _).drew
               have HB6 := hid ((HB5.out.trans hb5).trans hb6)
               have HROW6 := hid (StrRow.snoc hown)
               have HIN6 : Hid (∀ A', (Q + 1 < (a :: r).length → A' = some ⟨b, off + (Q + 1), none⟩) → IntsIn w6 w3.heap.size A' (castL (r.drop Q))) := hid (fun A' h => ((HFROM5.out A' h).below hb5).below hb6)
               clear hown hgrow hb6 hb5))
          all_goals
            go_wp2
            go_roundw
            case rel =>
              refine ⟨r.drop Q, done ++ [X], _, c - (Q + 1), by rw [HDL.out], by rw [HDL.out]; omega, by omega, HROW6.out, hid (HIN6.out _ (fun h => if_neg ?_)), HIT, ?_, HX20, HB6⟩
              · rw [List.length_cons] at h
                omega
              · rw [HDL.out, List.length_append, List.length_singleton]
                omega
            case measure => simp; omega
end Go.Proofs.YtnpfmoalgphkcaaGreatDoor
