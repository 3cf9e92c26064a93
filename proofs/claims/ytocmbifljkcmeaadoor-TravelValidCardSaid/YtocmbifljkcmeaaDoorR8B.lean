/-
  Valid of travel: isSquare, areEntries. Conditions: the table lies in memory.
-/
import Derived.Test.YtocmbifljkcmeaaDoorR8A
set_option linter.unusedVariables false
namespace Go.Proofs.YtocmbifljkcmeaaDoor
open Go Go.Proofs Go.RowKit Go.Lib

set_option maxHeartbeats 1000000 in
theorem sq1_any (A : Option Addr) (m c B : Nat) (n : Int) (w : World) (h : w.cell? ⟨B, 0, none⟩ = some (.int .i64 n)) :
    Calls Tryd.prog 47 #[.slice A m c, .pointer (some ⟨B, 0, none⟩)] w fun e w' => e = .returned (.bool ((m : Int) != n)) ∧ w = w' := by
  go_enter Tryd.func47, Tryd.ntmps47
  go_wp2
  go_ret
  exact ⟨rfl, rfl⟩
theorem egSq : ∀ args w, (callFunc 47 args).run Tryd.prog w = .ok (.enter 47 args) w := enters_of Tryd.func47 (by kernel_rfl) rfl
set_option maxHeartbeats 2000000 in
set_option maxRecDepth 100000 in
theorem sqIndex_any (S : Option Addr) (R : List (List Int)) (d B n : Nat) (P : Nat → Prop) (w : World) (h : TabIn w P S R) (h63 : R.length ≤ 9223372036854775807) (hB : w.cell? ⟨B, 0, none⟩ = some (.int .i64 (n : Int))) :
    Calls Tryd.prog 62 #[.slice S R.length d, .func (.func 47) #[] #[.pointer (some ⟨B, 0, none⟩)]] w fun e w' => (∃ v : Int, e = .returned (.int .i64 v) ∧ decide (v ≥ 0) = !(R.all fun r => decide (r.length = n))) ∧ w = w' := by
  obtain ⟨ANS, hA⟩ : ∃ ANS, (R.all fun r => decide (r.length = n)) = ANS := ⟨_, rfl⟩
  rw [hA]
  have HA := hid hA
  have HH := hid h
  have eg := egSq
  clear h hA
  go_enter Tryd.func62, Tryd.ntmps62
  go_wp2
  go_loop [5, 8] (fun _ iv => ∃ i : Nat, iv = .int .i64 (i : Int) ∧ i ≤ R.length ∧ Hid (∀ j, j < i → (R.getD j []).length = n)) (fun _ iv => R.length - (RowKit.intOf iv).toNat)
  case atStart => exact ⟨0, rfl, Nat.zero_le _, hid (fun j hj => absurd hj (by omega))⟩
  case round =>
    obtain ⟨i, rfl, hi, hE⟩ := hrel
    by_cases hlt : i < R.length
    · have hltz : (i : Int) < (R.length : Int) := by omega
      obtain ⟨b, off, A', c', rfl, hPb, y0, _, _, _⟩ := HH.out.at_ hlt
      obtain ⟨m, hm⟩ : ∃ m, (R.getD i []).length = m := ⟨_, rfl⟩
      rw [hm] at y0
      have cS := sq1_any A' m c' B n w hB
      by_cases hmn : m = n
      · have hb : ((m : Int) != (n : Int)) = false := by simp [hmn]
        have HN : Hid (∀ j, j < i + 1 → (R.getD j []).length = n) := hid (fun j hj => by
          by_cases h : j < i
          · exact hE.out j h
          · rw [show j = i by omega, hm, hmn])
        rw [hb] at cS
        clear hm hmn hE hb
        go_wp2_with fail
        refine cS.mono ?_
        rintro e w' ⟨rfl, rfl⟩
        go_wp2
        go_round
        case rel => exact ⟨i + 1, by go_num, by omega, HN⟩
        case measure => simp [RowKit.intOf]; omega
      · have hb : ((m : Int) != (n : Int)) = true := by simp; omega
        have HF : Hid (ANS = false) := hid (by
          rw [← HA.out, Bool.eq_false_iff]
          intro e
          rw [List.all_eq_true] at e
          have := e _ (List.getElem_mem hlt)
          simp only [decide_eq_true_eq] at this
          have e2 : R.getD i [] = R[i] := by simp [List.getD, List.getElem?_eq_getElem hlt]
          rw [e2] at hm
          omega)
        rw [hb] at cS
        clear hm hmn hE hb
        go_wp2_with fail
        refine cS.mono ?_
        rintro e w' ⟨rfl, rfl⟩
        go_wp2
        go_ret
        refine ⟨⟨_, rfl, ?_⟩, rfl⟩
        rw [HF.out]
        simp
    · have hltz : ¬ (i : Int) < (R.length : Int) := by omega
      have HF : Hid (ANS = true) := hid (by
        rw [← HA.out, List.all_eq_true]
        intro r hr
        obtain ⟨j, hj, rfl⟩ := List.mem_iff_getElem.1 hr
        have := hE.out j (by omega)
        have e2 : R.getD j [] = R[j] := by simp [List.getD, List.getElem?_eq_getElem hj]
        rw [e2] at this
        simpa using this)
      clear hE
      go_wp2
      go_ret
      refine ⟨⟨_, rfl, ?_⟩, rfl⟩
      rw [HF.out]
      rfl
set_option maxHeartbeats 2000000 in
theorem sqContains_any (S : Option Addr) (R : List (List Int)) (d B n : Nat) (P : Nat → Prop) (w : World) (h : TabIn w P S R) (h63 : R.length ≤ 9223372036854775807) (hB : w.cell? ⟨B, 0, none⟩ = some (.int .i64 (n : Int))) :
    Calls Tryd.prog 48 #[.slice S R.length d, .func (.func 47) #[] #[.pointer (some ⟨B, 0, none⟩)]] w fun e w' => e = .returned (.bool (!(R.all fun r => decide (r.length = n)))) ∧ w = w' := by
  have cI := sqIndex_any S R d B n P w h h63 hB
  obtain ⟨ANS, hA⟩ : ∃ ANS, (R.all fun r => decide (r.length = n)) = ANS := ⟨_, rfl⟩
  rw [hA] at cI ⊢
  obtain ⟨m, hm⟩ : ∃ m, R.length = m := ⟨_, rfl⟩
  rw [hm] at cI ⊢
  clear hA hm h h63 hB
  go_enter Tryd.func48, Tryd.ntmps48
  go_wp2_with fail
  refine cI.mono ?_
  rintro e w' ⟨⟨v, rfl, hv⟩, rfl⟩
  have HV := hid hv
  clear hv
  go_wp2
  go_ret
  exact ⟨by rw [← HV.out]; rfl, rfl⟩
set_option maxHeartbeats 2000000 in
set_option maxRecDepth 100000 in
theorem isSquare_any (S : Option Addr) (R : List (List Int)) (d n : Nat) (w : World) (h : TabIn w (fun b => b < w.heap.size) S R) (h63 : R.length ≤ 9223372036854775807) (hn : n ≤ 9223372036854775807) :
    Calls Tryd.prog 29 #[.slice S R.length d, .int .i64 (n : Int)] w (Says (.bool (sqrB R n)) w) := by
  unfold Says
  have hb1 := (Below.refl w.heap.size w).alloc (Nat.le_refl _) (.cells #[.int .i64 (n : Int)] 3)
  have e1 := heap_alloc_new w (.cells #[.int .i64 (n : Int)] 3)
  have x0 : (w.alloc (.cells #[.int .i64 (n : Int)] 3)).cell? ⟨w.heap.size, 0, none⟩ = some (.int .i64 (n : Int)) := by rw [Lib.cell_of_heap e1]; rfl
  have cC := fun W (hb : Below w.heap.size w W) (hx : W.cell? ⟨w.heap.size, 0, none⟩ = some (.int .i64 (n : Int))) => sqContains_any S R d w.heap.size n _ W (h.kept fun b hb' => hb.block b hb') h63 hx
  obtain ⟨ANS, hA⟩ : ∃ ANS, (R.all fun r => decide (r.length = n)) = ANS := ⟨_, rfl⟩
  have hsq : sqrB R n = (decide (R.length = n) && ANS) := by unfold sqrB; rw [hA]
  rw [hsq]
  rw [hA] at cC
  obtain ⟨m, hm⟩ : ∃ m, R.length = m := ⟨_, rfl⟩
  rw [hm] at cC ⊢
  have HB1 := hid hb1
  have cC1 := cC _ hb1 x0
  have CC := hid cC1
  clear cC cC1 hA hm h h63 hb1 e1 hsq
  by_cases hmn : m = n
  · have hb : ((m : Int) == (n : Int)) = true := by simp [hmn]
    rw [decide_eq_true hmn, Bool.true_and]
    clear hmn
    go_enter Tryd.func29, Tryd.ntmps29
    go_wp2_with fail
    refine CC.out.mono ?_
    rintro e w' ⟨rfl, rfl⟩
    go_wp2
    go_ret
    exact ⟨by simp, HB1.out⟩
  · have hb : ((m : Int) == (n : Int)) = false := by simp; omega
    rw [decide_eq_false hmn, Bool.false_and]
    clear hmn
    go_enter Tryd.func29, Tryd.ntmps29
    go_wp2
    go_ret
    exact ⟨rfl, HB1.out⟩
set_option maxHeartbeats 4000000 in
set_option maxRecDepth 100000 in
theorem areEntries_any (S : Option Addr) (R : List (List Int)) (d n : Nat) (P : Nat → Prop) (w : World) (h : TabIn w P S R) (hs : sqrB R n = true) (h63 : n ≤ 9223372036854775807) :
    Calls Tryd.prog 30 #[.slice S n d] w fun e w' => e = .returned (.bool (entsOk R n)) ∧ w = w' := by
  obtain ⟨ANS, hA⟩ : ∃ ANS, entsOk R n = ANS := ⟨_, rfl⟩
  rw [hA]
  have HA := hid hA
  have HT : Hid ((∀ i < n, ∀ k < n, okAt R i k = true) → ANS = true) := hid (fun h => by rw [← hA]; exact (entsOk_iff R n).2 h)
  have HF : Hid (∀ i k, i < n → k < n → okAt R i k = false → ANS = false) := hid (fun i k hi hk h => by
    rw [← hA, Bool.eq_false_iff]
    intro e
    rw [(entsOk_iff R n).1 e i hi k hk] at h
    cases h)
  have HH := hid (fun hn => h.sq hs hn)
  clear h hA hs
  go_enter Tryd.func30, Tryd.ntmps30
  go_wp2
  go_loop [3, 4, 5, 6, 9] (fun _ _ _ _ iv => ∃ i : Nat, iv = .int .i64 (i : Int) ∧ i ≤ n ∧ Hid (∀ a < i, ∀ k < n, okAt R a k = true)) (fun _ _ _ _ iv => n - (RowKit.intOf iv).toNat)
  case atStart => exact ⟨0, rfl, Nat.zero_le _, hid (fun j hj => absurd hj (by omega))⟩
  case round =>
    obtain ⟨i, rfl, hi, hE⟩ := hrel
    by_cases hlt : i < n
    · have hltz : (i : Int) < (n : Int) := by omega
      obtain ⟨b, off, rfl, _, hc⟩ := HH.out (by omega)
      obtain ⟨bi, oi, ci, y0, _, _, _, y1⟩ := hc i hlt
      have HC := hid hc
      have HY := hid y1
      clear hc y1
      go_wp2
      go_loop [5, 6, 16] (fun _ _ kv => ∃ k : Nat, kv = .int .i64 (k : Int) ∧ k ≤ n ∧ Hid (∀ j < k, okAt R i j = true)) (fun _ _ kv => n - (RowKit.intOf kv).toNat)
      case atStart => exact ⟨0, rfl, Nat.zero_le _, hid (fun j hj => absurd hj (by omega))⟩
      case round =>
        obtain ⟨k, rfl, hk, hE2⟩ := hrel
        by_cases hlt2 : k < n
        · have hltz2 : (k : Int) < (n : Int) := by omega
          have x1 := HY.out k hlt2
          obtain ⟨bk, ok, ck, z0, _, _, _, z1⟩ := HC.out k hlt2
          have z2 := z1 i hlt
          have hok := okAt_iff R i k
          have HNO : Hid (okAt R i k = false → ANS = false) := hid (HF.out i k hlt hlt2)
          have HYES : Hid (okAt R i k = true → ∀ j < k + 1, okAt R i j = true) := hid (fun h j hj => by
            by_cases h' : j < k
            · exact hE2.out j h'
            · rw [show j = k by omega]; exact h)
          obtain ⟨x, hx⟩ : ∃ x, at2 R i k = x := ⟨_, rfl⟩
          obtain ⟨y, hy⟩ : ∃ y, at2 R k i = y := ⟨_, rfl⟩
          obtain ⟨OK, hOK⟩ : ∃ OK, okAt R i k = OK := ⟨_, rfl⟩
          have hxy : i = k → x = y := by rintro rfl; rw [← hx, ← hy]
          rw [hx] at x1
          rw [hy] at z2
          rw [hx, hy, hOK] at hok
          rw [hOK] at HNO HYES
          clear z1 hx hy hOK
          by_cases hik : i = k
          · have hikb : ((i : Int) == (k : Int)) = true := by simp [hik]
            by_cases h0 : x = 0
            · have h0b : (x != 0) = false := by simp [h0]
              have h1 : ¬ x < -1 := by omega
              have h2 : ¬ 24 < x := by omega
              have h3 : (x != y) = false := by simp; exact hxy hik
              have HOK := hid (HYES.out (hok.2 ⟨fun _ => h0, by omega, by omega, hxy hik⟩))
              clear hok hxy h0 hik HNO HYES
              go_wp2
              go_round
              case rel => exact ⟨k + 1, by go_num, by omega, HOK⟩
              case measure => simp [RowKit.intOf]; omega
            · have h0b : (x != 0) = true := by simp [h0]
              have HOK : Hid (ANS = false) := hid (HNO.out (Bool.eq_false_iff.2 fun e => h0 ((hok.1 e).1 hik)))
              clear hok hxy h0 hik HNO HYES
              go_wp2
              go_ret
              exact ⟨by rw [HOK.out]; rfl, rfl⟩
          · have hikb : ((i : Int) == (k : Int)) = false := by simp; omega
            by_cases h1 : x < -1
            · have HOK : Hid (ANS = false) := hid (HNO.out (Bool.eq_false_iff.2 fun e => by have := (hok.1 e).2.1; omega))
              clear hok hxy hik HNO HYES
              go_wp2
              go_ret
              exact ⟨by rw [HOK.out]; rfl, rfl⟩
            · by_cases h2 : 24 < x
              · have HOK : Hid (ANS = false) := hid (HNO.out (Bool.eq_false_iff.2 fun e => by have := (hok.1 e).2.2.1; omega))
                clear hok hxy hik HNO HYES
                go_wp2
                go_ret
                exact ⟨by rw [HOK.out]; rfl, rfl⟩
              · by_cases h3 : x = y
                · have h3b : (x != y) = false := by simp [h3]
                  have HOK := hid (HYES.out (hok.2 ⟨fun h => absurd h hik, by omega, by omega, h3⟩))
                  clear hok hxy h3 hik HNO HYES
                  go_wp2
                  go_round
                  case rel => exact ⟨k + 1, by go_num, by omega, HOK⟩
                  case measure => simp [RowKit.intOf]; omega
                · have h3b : (x != y) = true := by simp [h3]
                  have HOK : Hid (ANS = false) := hid (HNO.out (Bool.eq_false_iff.2 fun e => h3 (hok.1 e).2.2.2))
                  clear hok hxy h3 hik HNO HYES
                  go_wp2
                  go_ret
                  exact ⟨by rw [HOK.out]; rfl, rfl⟩
        · have hltz2 : ¬ (k : Int) < (n : Int) := by omega
          have HN : Hid (∀ a < i + 1, ∀ k < n, okAt R a k = true) := hid (fun a ha j hj => by
            by_cases h' : a < i
            · exact hE.out a h' j hj
            · rw [show a = i by omega]; exact hE2.out j (by omega))
          clear hE2
          go_wp2
          go_round
          case rel => exact ⟨i + 1, by go_num, by omega, HN⟩
          case measure => simp [RowKit.intOf]; omega
    · have hltz : ¬ (i : Int) < (n : Int) := by omega
      have HN := hid (HT.out fun a ha k hk => hE.out a (by omega) k hk)
      clear hE
      go_wp2
      go_ret
      exact ⟨by rw [HN.out]; rfl, rfl⟩
end Go.Proofs.YtocmbifljkcmeaaDoor
