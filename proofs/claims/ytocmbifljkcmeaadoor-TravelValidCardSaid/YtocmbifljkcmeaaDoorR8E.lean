/-
  The first error of a table by the specification: Valid. Conditions: the table lies in memory.
-/
import Derived.Test.YtocmbifljkcmeaaDoorR8D
set_option linter.unusedVariables false
namespace Go.Proofs.YtocmbifljkcmeaaDoor
open Go Go.Proofs Go.RowKit Go.Lib

set_option maxHeartbeats 8000000 in
set_option maxRecDepth 100000 in
theorem rtvalid_any (A S : Option Addr) (l : List Str) (R : List (List Int)) (c d : Nat) (w : World) (h : TravIn w (fun b => b < w.heap.size) A S (l, R)) (hc : l.length ≤ c) (hc2 : c ≤ 9223372036854775807) (h64 : R.length ≤ 9223372036854775807) :
    Calls Tryd.prog 11 #[.agg #[.slice A l.length c, .slice S R.length d]] w (Says (.int .i64 (validT (l, R))) w) := by
  unfold Says
  obtain ⟨ANS, hA⟩ : ∃ ANS, validT (l, R) = ANS := ⟨_, rfl⟩
  rw [hA]
  unfold validT at hA
  dsimp only at hA
  have hk := KT.first w (.slice A l.length c) (.slice S R.length d) 25
  have HH := hid h
  by_cases h8 : 8 < l.length
  · have h8z : (8 : Int) < (l.length : Int) := by omega
    rw [if_pos h8] at hA
    subst hA
    have HK := hid hk.b
    obtain ⟨x0, x1, _, _⟩ := hk
    clear h HH
    go_enter Tryd.func11, Tryd.ntmps11
    go_wp2
    go_ret
    exact ⟨rfl, HK.out⟩
  · have h8z : ¬ (8 : Int) < (l.length : Int) := by omega
    rw [if_neg h8] at hA
    have HS := hid (fun (w' : World) (hb : Below w.heap.size w w') => (h.below hb))
    have HK := hid hk
    have HA := hid hA
    have HE0 : Hid (bldE l (l.length - 0) 0 = bldM l) := hid rfl
    obtain ⟨E, hE⟩ : ∃ E, bldM l = E := ⟨_, rfl⟩
    rw [hE] at HA HE0
    obtain ⟨x0, x1, _, _⟩ := hk
    clear h hA HH hE
    go_enter Tryd.func11, Tryd.ntmps11
    go_wp2
    generalize w.alloc (.cells #[.slice A l.length c, .slice S R.length d] 25) = wb at HK x0 x1 ⊢
    clear x0 x1
    go_loopw [3] (fun iv wr => ∃ i : Nat, iv = .int .i64 (i : Int) ∧ i ≤ l.length ∧ Hid (bldE l (l.length - i) i = E) ∧ Hid (KT w (.slice A l.length c) (.slice S R.length d) wr)) (fun iv _ => l.length - (RowKit.intOf iv).toNat)
    case atStart => exact ⟨0, rfl, Nat.zero_le _, HE0, HK⟩
    case round =>
      obtain ⟨i, rfl, hi, hE, HKr⟩ := hrel
      obtain ⟨x0, x1, _, _⟩ := HKr.out
      by_cases hlt : i < l.length
      · have hltz : (i : Int) < (l.length : Int) := by omega
        have hd : decide (l.length ≤ i) = false := decide_eq_false (by omega)
        have hst := bldE_step l i hlt
        rw [hE.out] at hst
        have hin := (HS.out wr HKr.out.b).b
        obtain ⟨b1, o1, rfl, _, y0⟩ := hin.at_ hlt
        have hg : l.getD i [] = l[i] := by simp [List.getD, List.getElem?_eq_getElem hlt]
        rw [hg] at hst
        have cV := fun w => S3.refValid_any (ba l[i]) w
        rw [show (ba l[i]).data.toList = l[i] from rfl] at cV
        have cC := fun k => (place_any (some ⟨b1, o1, none⟩) l c (ba l[i]) _ (wr.drewN k) (drewN_stays' hin k) (by omega)).mono fun e w' ⟨he, hw⟩ => (⟨he, 0, hw.symm⟩ : e = _ ∧ ∃ q, w' = (wr.drewN k).drewN q)
        rw [lst_ba] at cC
        have hpe := plc_early l i hlt
        have e1 : S3.strV l[i] = .string (ba l[i]) := rfl
        rw [e1] at y0
        obtain ⟨V, hV⟩ : ∃ V, S3.validC l[i] = V := ⟨_, rfl⟩
        obtain ⟨p, hp⟩ : ∃ p, plc l l[i] = p := ⟨_, rfl⟩
        rw [hV] at cV hst
        rw [hp] at cC hpe
        obtain ⟨X, hX⟩ : ∃ X, ba l[i] = X := ⟨_, rfl⟩
        rw [hX] at cV cC y0
        have hdm : l[i] ∈ l.take i ↔ p < (i : Int) := by
          have := hpe
          rw [Bool.eq_iff_iff, decide_eq_true_eq, decide_eq_true_eq] at this
          exact this.symm
        simp only [hdm] at hst
        have CV := hid cV
        have CC := hid cC
        clear cV cC hV hp hX e1 hg hdm hin hE hpe
        cases V with
        | false =>
          have HST : Hid (ANS = 10) := hid (by
            have h := HA.out
            rw [if_pos rfl] at hst
            subst hst
            rw [if_pos (by decide)] at h
            exact h.symm)
          clear hst
          go_wp2_with fail
          refine (CV.out _).mono ?_
          rintro e w' ⟨rfl, rfl⟩
          go_wp2
          go_ret
          exact ⟨by rw [HST.out]; rfl, HKr.out.b⟩
        | true =>
          rw [if_neg (by simp)] at hst
          by_cases hpi : p < (i : Int)
          · have HST : Hid (ANS = 11) := hid (by
              have h := HA.out
              rw [if_pos hpi] at hst
              subst hst
              rw [if_pos (by decide)] at h
              exact h.symm)
            clear hst
            go_wp2_with fail
            refine (CV.out _).mono ?_
            rintro e w' ⟨rfl, rfl⟩
            go_wp2_with fail
            go_quiet ((go_at_call 32; with_reducible refine Calls.quiet_of (CC.out _)))
            go_wp2
            go_ret
            exact ⟨by rw [HST.out]; rfl, (HKr.out.drawn _).b⟩
          · rw [if_neg hpi] at hst
            have HST := hid hst.symm
            clear hst
            go_wp2_with fail
            refine (CV.out _).mono ?_
            rintro e w' ⟨rfl, rfl⟩
            go_wp2_with fail
            go_quiet ((go_at_call 32; with_reducible refine Calls.quiet_of (CC.out _)))
            go_wp2
            go_roundw
            case rel => exact ⟨i + 1, by go_num, by omega, HST, hid (HKr.out.drawn _)⟩
            case measure => simp [RowKit.intOf]; omega
      · have hltz : ¬ (i : Int) < (l.length : Int) := by omega
        have hst := bldE_end l i (by omega)
        rw [hE.out] at hst
        have hA := HA.out
        rw [if_neg (by omega)] at hA
        have hT := (HS.out wr HKr.out.b).s
        obtain ⟨n, hn⟩ : ∃ n, l.length = n := ⟨_, rfl⟩
        rw [hn] at hA hltz x0 ⊢
        obtain ⟨m, hm⟩ : ∃ m, R.length = m := ⟨_, rfl⟩
        have h64m : m ≤ 9223372036854775807 := by omega
        have h63n : n ≤ 9223372036854775807 := by omega
        rw [hm] at x1 ⊢
        have HM := hid hm
        have HT := hid hT
        have HKB := hid HKr.out.b
        have hA2 : Hid ((if sqrB R n = false then (1 : Int) else if entsOk R n = false then 3 else 0) = ANS) := hid hA
        clear hA HA
        clear hst hE
        clear hT hn
        clear HKr
        clear HK HS
        clear hm
        clear hi
        clear h64 h8
        clear h8z
        clear HE0
        by_cases hmn : m = n
        · have hb : ((m : Int) != (n : Int)) = false := by simp [hmn]
          go_wp2
          go_loop [5] (fun iv => ∃ i : Nat, iv = .int .i64 (i : Int) ∧ i ≤ n ∧ Hid (∀ j, j < i → (R.getD j []).length = n)) (fun iv => n - (RowKit.intOf iv).toNat)
          case atStart => exact ⟨0, rfl, Nat.zero_le _, hid (fun j hj => absurd hj (by omega))⟩
          case round =>
            obtain ⟨j, rfl, hj, hJ⟩ := hrel
            by_cases hlt2 : j < n
            · have hltz2 : (j : Int) < (n : Int) := by omega
              have hltm : (j : Int) < (m : Int) := by omega
              have hd2 : decide (m ≤ j) = false := decide_eq_false (by omega)
              obtain ⟨bb, off, A', c', rfl, _, z0, _, _, _⟩ := HT.out.at_ (show j < R.length by rw [HM.out]; omega)
              obtain ⟨u, hu⟩ : ∃ u, (R.getD j []).length = u := ⟨_, rfl⟩
              rw [hu] at z0
              by_cases hun : u = n
              · have hb2 : ((u : Int) != (n : Int)) = false := by simp [hun]
                have HN : Hid (∀ k, k < j + 1 → (R.getD k []).length = n) := hid (fun k hk => by
                  by_cases h : k < j
                  · exact hJ.out k h
                  · rw [show k = j by omega, hu, hun])
                clear hu hun hJ
                go_wp2
                go_round
                case rel => exact ⟨j + 1, by go_num, by omega, HN⟩
                case measure => simp [RowKit.intOf]; omega
              · have hb2 : ((u : Int) != (n : Int)) = true := by simp; omega
                have HST : Hid (ANS = 1) := hid (by
                  have h := hA2.out
                  rw [if_pos] at h
                  · exact h.symm
                  · rw [Bool.eq_false_iff]
                    intro e
                    have hjl : j < R.length := by rw [HM.out]; omega
                    have := sqrB_row e hjl
                    have e2 : R.getD j [] = R[j] := by simp [List.getD, List.getElem?_eq_getElem hjl]
                    rw [e2] at hu
                    omega)
                clear hu hun hJ
                go_wp2
                go_ret
                exact ⟨by rw [HST.out]; rfl, HKB.out⟩
            · have hltz2 : ¬ (j : Int) < (n : Int) := by omega
              have hsq : sqrB R n = true := by
                unfold sqrB
                simp only [Bool.and_eq_true, decide_eq_true_eq, List.all_eq_true]
                refine ⟨by rw [HM.out]; exact hmn, fun r hr => ?_⟩
                obtain ⟨k, hk, rfl⟩ := List.mem_iff_getElem.1 hr
                have := hJ.out k (by have := HM.out; omega)
                have e2 : R.getD k [] = R[k] := by simp [List.getD, List.getElem?_eq_getElem hk]
                rw [e2] at this
                exact this
              have hA := hA2.out
              rw [if_neg (by simp [hsq])] at hA
              have HT' : Hid ((∀ i < n, ∀ k < n, okAt R i k = true) → ANS = 0) := hid (fun h => by
                rw [if_neg (by rw [(entsOk_iff R n).2 h]; simp)] at hA
                exact hA.symm)
              have HF : Hid (∀ i k, i < n → k < n → okAt R i k = false → ANS = 3) := hid (fun i k hi hk h => by
                rw [if_pos (by
                  rw [Bool.eq_false_iff]
                  intro e
                  rw [(entsOk_iff R n).1 e i hi k hk] at h
                  cases h)] at hA
                exact hA.symm)
              have HC := hid (fun hn => HT.out.sq hsq hn)
              clear hA hsq hJ hA2
              subst hmn
              go_wp2
              go_loop [6, 7, 8] (fun iv _ _ => ∃ i : Nat, iv = .int .i64 (i : Int) ∧ i ≤ m ∧ Hid (∀ a < i, ∀ k < m, okAt R a k = true)) (fun iv _ _ => m - (RowKit.intOf iv).toNat)
              case atStart => exact ⟨0, rfl, Nat.zero_le _, hid (fun j hj => absurd hj (by omega))⟩
              case round =>
                obtain ⟨i, rfl, hi, hE⟩ := hrel
                by_cases hlt3 : i < m
                · have hltz3 : (i : Int) < (m : Int) := by omega
                  have hd3 : decide (m ≤ i) = false := decide_eq_false (by omega)
                  obtain ⟨b, off, rfl, _, hc⟩ := HC.out (by omega)
                  obtain ⟨bi, oi, ci, y0, _, _, _, y1⟩ := hc i hlt3
                  have HCC := hid hc
                  have HY := hid y1
                  clear hc y1
                  go_wp2
                  go_loop [7, 8] (fun kv _ => ∃ k : Nat, kv = .int .i64 (k : Int) ∧ k ≤ m ∧ Hid (∀ j < k, okAt R i j = true)) (fun kv _ => m - (RowKit.intOf kv).toNat)
                  case atStart => exact ⟨0, rfl, Nat.zero_le _, hid (fun j hj => absurd hj (by omega))⟩
                  case round =>
                    obtain ⟨k, rfl, hk, hE2⟩ := hrel
                    by_cases hlt4 : k < m
                    · have hltz4 : (k : Int) < (m : Int) := by omega
                      have hd4 : decide (m ≤ k) = false := decide_eq_false (by omega)
                      have z1 := HY.out k hlt4
                      obtain ⟨bk, ok, ck, z0, _, _, _, z2'⟩ := HCC.out k hlt4
                      have z2 := z2' i hlt3
                      have hok := okAt_iff R i k
                      have HNO : Hid (okAt R i k = false → ANS = 3) := hid (HF.out i k hlt3 hlt4)
                      have HYES : Hid (okAt R i k = true → ∀ j < k + 1, okAt R i j = true) := hid (fun h j hj => by
                        by_cases h' : j < k
                        · exact hE2.out j h'
                        · rw [show j = k by omega]; exact h)
                      obtain ⟨x, hx⟩ : ∃ x, at2 R i k = x := ⟨_, rfl⟩
                      obtain ⟨y, hy⟩ : ∃ y, at2 R k i = y := ⟨_, rfl⟩
                      obtain ⟨OK, hOK⟩ : ∃ OK, okAt R i k = OK := ⟨_, rfl⟩
                      have hxy : i = k → x = y := by rintro rfl; rw [← hx, ← hy]
                      rw [hx] at z1
                      rw [hy] at z2
                      rw [hx, hy, hOK] at hok
                      rw [hOK] at HNO HYES
                      clear z2' hx hy hOK
                      by_cases h1 : x < -1
                      · have HOK : Hid (ANS = 3) := hid (HNO.out (Bool.eq_false_iff.2 fun e => by have := (hok.1 e).2.1; omega))
                        clear hok hxy HNO HYES
                        go_wp2
                        go_ret
                        exact ⟨by rw [HOK.out]; rfl, HKB.out⟩
                      by_cases h2 : 24 < x
                      · have HOK : Hid (ANS = 3) := hid (HNO.out (Bool.eq_false_iff.2 fun e => by have := (hok.1 e).2.2.1; omega))
                        clear hok hxy HNO HYES
                        go_wp2
                        go_ret
                        exact ⟨by rw [HOK.out]; rfl, HKB.out⟩
                      by_cases hik : i = k
                      · have hikb : ((i : Int) == (k : Int)) = true := by simp [hik]
                        by_cases h0 : x = 0
                        · have h0b : (x != 0) = false := by simp [h0]
                          have h3 : (x != y) = false := by simp; exact hxy hik
                          have HOK := hid (HYES.out (hok.2 ⟨fun _ => h0, by omega, by omega, hxy hik⟩))
                          clear hok hxy h0 hik HNO HYES
                          go_wp2
                          go_round
                          case rel => exact ⟨k + 1, by go_num, by omega, HOK⟩
                          case measure => simp [RowKit.intOf]; omega
                        · have h0b : (x != 0) = true := by simp [h0]
                          have HOK : Hid (ANS = 3) := hid (HNO.out (Bool.eq_false_iff.2 fun e => h0 ((hok.1 e).1 hik)))
                          clear hok hxy h0 hik HNO HYES
                          go_wp2
                          go_ret
                          exact ⟨by rw [HOK.out]; rfl, HKB.out⟩
                      · have hikb : ((i : Int) == (k : Int)) = false := by simp; omega
                        by_cases h3 : x = y
                        · have h3b : (x != y) = false := by simp [h3]
                          have HOK := hid (HYES.out (hok.2 ⟨fun h => absurd h hik, by omega, by omega, h3⟩))
                          clear hok hxy h3 hik HNO HYES
                          go_wp2
                          go_round
                          case rel => exact ⟨k + 1, by go_num, by omega, HOK⟩
                          case measure => simp [RowKit.intOf]; omega
                        · have h3b : (x != y) = true := by simp [h3]
                          have HOK : Hid (ANS = 3) := hid (HNO.out (Bool.eq_false_iff.2 fun e => h3 (hok.1 e).2.2.2))
                          clear hok hxy h3 hik HNO HYES
                          go_wp2
                          go_ret
                          exact ⟨by rw [HOK.out]; rfl, HKB.out⟩
                    · have hltz4 : ¬ (k : Int) < (m : Int) := by omega
                      have HN : Hid (∀ a < i + 1, ∀ k < m, okAt R a k = true) := hid (fun a ha j hj => by
                        by_cases h' : a < i
                        · exact hE.out a h' j hj
                        · rw [show a = i by omega]; exact hE2.out j (by omega))
                      clear hE2
                      go_wp2
                      go_round
                      case rel => exact ⟨i + 1, by go_num, by omega, HN⟩
                      case measure => simp [RowKit.intOf]; omega
                · have hltz3 : ¬ (i : Int) < (m : Int) := by omega
                  have HN := hid (HT'.out fun a ha k hk => hE.out a (by omega) k hk)
                  clear hE
                  go_wp2
                  go_ret
                  exact ⟨by rw [HN.out]; rfl, HKB.out⟩
        · have hb : ((m : Int) != (n : Int)) = true := by simp; omega
          have HST : Hid (ANS = 1) := hid (by
            have h := hA2.out
            rw [if_pos] at h
            · exact h.symm
            · rw [Bool.eq_false_iff]
              intro e
              have := sqrB_len e
              have := HM.out
              omega)
          clear hA2
          go_wp2
          go_ret
          exact ⟨by rw [HST.out]; rfl, HKB.out⟩
end Go.Proofs.YtocmbifljkcmeaaDoor
