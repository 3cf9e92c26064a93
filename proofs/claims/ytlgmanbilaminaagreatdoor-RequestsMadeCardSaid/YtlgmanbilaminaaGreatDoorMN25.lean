/-
  Wanted of the specification: the requests of a student by their priority. Conditions: the requests lie in memory. That the specification finds equal lists of .. Conditions: as stated.
-/
import Derived.Test.YtlgmanbilaminaaGreatDoorMN17
set_option linter.unusedVariables false
namespace Go.Proofs.YtlgmanbilaminaaGreatDoor.S12
open Go Go.Proofs Go.RowKit Go.Lib Go.Proofs.YtlgmanbilaminaaGreatDoor Go.Proofs.YtlgmanbilaminaaGreatDoor.S11
theorem insP_at {α : Type} (key : α → Int) (x : α) : ∀ (L : List α) (k : Nat), k ≤ L.length → (∀ j (hj : j < L.length), j < k → ¬ key x < key L[j]) → (∀ (hj : k < L.length), key x < key L[k]) → insP key x L = L.take k ++ x :: L.drop k
  | [], k, hk, _, _ => by
    obtain rfl : k = 0 := by simpa using hk
    rfl
  | y :: L, 0, _, _, h2 => by
    unfold insP
    have h0 : key x < key y := h2 (by simp)
    rw [if_pos h0]
    rfl
  | y :: L, k + 1, hk, h1, h2 => by
    unfold insP
    have h0 : ¬ key x < key y := h1 0 (by simp) (by omega)
    rw [if_neg h0]
    rw [insP_at key x L k (by simpa using hk) (fun j hj hjk => h1 (j + 1) (by simpa using hj) (by omega)) (fun hj => h2 (by simpa using hj))]
    rfl
structure WtQ (w : World) (l : List ReqD) (s : Str) (Lr : List ReqP) : Prop where
  e : Lr.map (·.1) = wantM l s
  i : ∀ p ∈ Lr, ReqIn w (fun k => k < w.heap.size) p.1 p.2
theorem WtQ.nil (w : World) (s : Str) : WtQ w [] s [] := ⟨rfl, fun p hp => by simp at hp⟩
theorem wantF_snoc (l : List ReqD) (r : ReqD) (s : Str) : wantF (l ++ [r]) s = if r.s = s then wantF l s ++ [r] else wantF l s := by
  unfold wantF
  rw [List.filter_append]
  by_cases h : r.s = s
  · rw [if_pos h, List.filter_cons_of_pos (by simpa using h)]; rfl
  · rw [if_neg h, List.filter_cons_of_neg (by simpa using h)]; simp
theorem WtQ.skip {w : World} {l : List ReqD} {s : Str} {Lr : List ReqP} (h : WtQ w l s Lr) {r : ReqD} (hr : r.s ≠ s) : WtQ w (l ++ [r]) s Lr := ⟨by unfold wantM; rw [wantF_snoc, if_neg hr]; exact h.e, h.i⟩
theorem WtQ.put {w : World} {l : List ReqD} {s : Str} {Lr : List ReqP} (h : WtQ w l s Lr) {r : ReqD} {q : ReqA} (hr : r.s = s) (hq : ReqIn w (fun k => k < w.heap.size) r q) (k : Nat) (hk : k ≤ Lr.length)
    (h1 : ∀ j (hj : j < Lr.length), k ≤ j → r.p < (Lr[j]).1.p) (h2 : ∀ j (hj : j < Lr.length), j + 1 = k → ¬ r.p < (Lr[j]).1.p) : WtQ w (l ++ [r]) s (Lr.take k ++ (r, q) :: Lr.drop k) := by
  refine ⟨?_, fun p hp => ?_⟩
  · unfold wantM
    rw [wantF_snoc, if_pos hr, sortP_snoc]
    have e := h.e
    unfold wantM at e
    rw [← e]
    have hs : (Lr.map (·.1)).Pairwise (fun a b => a.p ≤ b.p) := by rw [e]; exact (sortP_stab (key := fun r : ReqD => r.p) (wantF l s)).2
    rw [insP_at (fun r : ReqD => r.p) r (Lr.map (·.1)) k (by simpa using hk) (fun j hj hjk => by
      obtain ⟨m, rfl⟩ : ∃ m, k = m + 1 := ⟨k - 1, by omega⟩
      have hm : m < Lr.length := by omega
      have hx := h2 m hm rfl
      have hj' : j < Lr.length := by simpa using hj
      rw [List.getElem_map]
      rcases (show j = m ∨ j < m by omega) with rfl | hlt
      · exact hx
      · have := List.pairwise_iff_getElem.1 hs j m hj (by simpa using hm) hlt
        rw [List.getElem_map, List.getElem_map] at this
        omega) (fun hj => by
      rw [List.getElem_map]
      exact h1 k (by simpa using hj) (Nat.le_refl _))]
    rw [List.map_append, List.map_cons, List.map_take, List.map_drop]
  · rcases List.mem_append.1 hp with hp | hp
    · exact h.i p (List.mem_of_mem_take hp)
    · rcases List.mem_cons.1 hp with rfl | hp
      · exact hq
      · exact h.i p (List.mem_of_mem_drop hp)
theorem reqVals_take (L : List ReqP) (k : Nat) : reqVals (L.take k) = (reqVals L).take (k * 4) := by
  by_cases hk : k ≤ L.length
  · have e : reqVals L = reqVals (L.take k) ++ reqVals (L.drop k) := by rw [← reqVals_app, List.take_append_drop]
    have hl : (reqVals (L.take k)).length = k * 4 := by rw [reqVals_len, List.length_take, Nat.min_eq_left hk]
    rw [e, ← hl, List.take_left]
  · rw [List.take_of_length_le (by omega), List.take_of_length_le (by rw [reqVals_len]; omega)]
theorem reqVals_drop (L : List ReqP) (k : Nat) : reqVals (L.drop k) = (reqVals L).drop (k * 4) := by
  by_cases hk : k ≤ L.length
  · have e : reqVals L = reqVals (L.take k) ++ reqVals (L.drop k) := by rw [← reqVals_app, List.take_append_drop]
    have hl : (reqVals (L.take k)).length = k * 4 := by rw [reqVals_len, List.length_take, Nat.min_eq_left hk]
    rw [e, ← hl, List.drop_left]
  · rw [List.drop_of_length_le (by omega), List.drop_of_length_le (by rw [reqVals_len]; omega)]
    rfl
set_option maxHeartbeats 32000000 in
set_option maxRecDepth 100000 in
theorem rwanted_any (A : Option Addr) (l : List ReqD) (c : Nat) (s : ByteArray) (w : World) (h : ReqsIn w (fun k => k < w.heap.size) A l) (hl : l.length ≤ 1099511627776) :
    Calls Tryz.prog 21 #[.slice A l.length c, .string s] w fun e w' => (∃ v, e = .returned v ∧ ReqRow w' w.heap.size (fun k => k < w.heap.size) v (wantM l (lst s))) ∧ Below w.heap.size w w' := by
  obtain ⟨iC, hiC, hzC, hsiC, hbyC⟩ := info_parts infoReq
  have HH := hid h
  have HLL := hid hl
  clear h
  go_enter Tryz.func21, Tryz.ntmps21
  go_wp2
  go_loopw [5, 6] (fun ov iv wr => ∃ (i n : Nat) (L : List ReqP) (Ao : Option Addr) (co : Nat), ov = .slice Ao n co ∧ iv = .int .i64 (i : Int) ∧ i ≤ l.length ∧ n ≤ i ∧ Hid (L.length = n) ∧ Hid (WtQ w (l.take i) (lst s) L) ∧ Hid (AtQ w.heap.size 61 4 w wr (.slice Ao n co) n (reqVals L))) (fun _ iv _ => l.length - (RowKit.intOf iv).toNat)
  case atStart => exact ⟨0, 0, [], none, 0, rfl, rfl, Nat.zero_le _, Nat.zero_le _, hid rfl, hid (WtQ.nil _ _), hid ⟨World.ownsRow_nil _ _ _ _, Below.refl _ _⟩⟩
  case round =>
    obtain ⟨i, n, L, Ao, co, rfl, rfl, hi, hn, hLn, hso, hA⟩ := hrel
    by_cases hlt : i < l.length
    · have hltz : (i : Int) < (l.length : Int) := by omega
      obtain ⟨b, off, qa, rfl, hbl, hri, y0, y1, y2, y3⟩ := HH.out.at_ hlt
      have htk : Hid (l.take (i + 1) = l.take i ++ [l[i]]) := hid (List.take_succ_eq_append_getElem hlt)
      obtain ⟨⟨st, cd, pr, cs⟩, hr⟩ : ∃ r, l[i] = r := ⟨_, rfl⟩
      rw [hr] at htk hri y0 y1 y2 y3
      dsimp only at y0 y1 y2 y3
      obtain ⟨S0, hS0⟩ : ∃ X, ba st = X := ⟨_, rfl⟩
      obtain ⟨C0, hC0⟩ : ∃ X, ba cd = X := ⟨_, rfl⟩
      obtain ⟨N0, hN0⟩ : ∃ X, cs.length = X := ⟨_, rfl⟩
      have HVS : Hid (reqVs ⟨st, cd, pr, cs⟩ qa = [Value.string S0, .string C0, .int .i64 pr, .slice qa.1 N0 qa.2]) := hid (by unfold reqVs; dsimp only; rw [hS0, hC0, hN0])
      have tS : S0.toList = st := by rw [Lib.toList_data, ← hS0]; rfl
      have ts : s.toList = lst s := Lib.toList_data s
      rw [hS0] at y0
      rw [hC0] at y1
      rw [hN0] at y3
      have HRI := hid hri
      have di : decide (l.length ≤ i) = false := decide_eq_false (by omega)
      have z0 : wr.cell? ⟨b, off + i * 4, none⟩ = some (.string S0) := (hA.out.2.cell (p := ⟨b, off + i * 4, none⟩) hbl).trans y0
      have HY0 := hid y0
      have HY1 := hid y1
      have HY2 := hid y2
      have HY3 := hid y3
      clear y0 y1 y2 y3 hri hr hS0 hC0 hN0
      by_cases hs : st = lst s
      · have hbe : (S0.toList != s.toList) = false := by rw [tS, ts, hs]; simp
        have hbe2 : (S0.toList == s.toList) = true := by rw [tS, ts, hs]; simp
        have HSS := hid hs
        clear hs tS ts
        go_wp2
        generalize hzz : wr = wz at *
        clear hzz z0
        go_loopw [7] (fun kv wr2 => ∃ k : Nat, kv = .int .i64 (k : Int) ∧ k ≤ n ∧ Hid (∀ j (hj : j < L.length), k ≤ j → pr < (L[j]).1.p) ∧ Hid (∃ q, wr2 = wz.drewN q)) (fun kv _ => (RowKit.intOf kv).toNat)
        case atStart => exact ⟨n, rfl, Nat.le_refl _, hid (fun j hj h => absurd hj (by rw [hLn.out]; omega)), hid ⟨0, rfl⟩⟩
        case round =>
          obtain ⟨k, rfl, hk, hgt, HQ⟩ := hrel
          have hst : ∀ k, wr.heap[k]? = wz.heap[k]? := fun k => by obtain ⟨q, hq⟩ := HQ.out; rw [hq, S3.drewN_heap]
          have z2 : wr.cell? ⟨b, off + i * 4 + 2, none⟩ = some (.int .i64 pr) := (World.cell?_of_block (w := wz) (hst b)).trans ((hA.out.2.cell (p := ⟨b, off + i * 4 + 2, none⟩) hbl).trans HY2.out)
          obtain ⟨VL, hVLe⟩ : ∃ V, reqVals L = V := ⟨_, rfl⟩
          have hVL : Hid (VL.length = n * 4) := hid (by rw [← hVLe, reqVals_len, hLn.out])
          have HV1 : Hid (∀ u ∈ VL, u.oneCell' = true) := hid (fun u hu => by rw [← hVLe] at hu; exact reqVals_one L u hu)
          have HX1 : Hid (∀ u ∈ [Value.string S0, .string C0, .int .i64 pr, .slice qa.1 N0 qa.2], u.oneCell' = true) := hid (by rw [← HVS.out]; exact req_one _ _)
          have hvals : Hid (∀ k, reqVals (L.take k ++ (⟨st, cd, pr, cs⟩, qa) :: L.drop k) = VL.take (k * 4) ++ ([.string S0, .string C0, .int .i64 pr, .slice qa.1 N0 qa.2] ++ VL.drop (k * 4))) := hid (fun k => by
            rw [← hVLe, ← reqVals_take, ← reqVals_drop, reqVals_app, ← HVS.out]
            unfold reqVals
            rw [List.flatMap_cons])
          have HVE := hid hVLe
          rcases Nat.eq_zero_or_pos k with hk0 | hk0
          · have hle : Hid (∀ j (hj : j < L.length), j + 1 = k → ¬ pr < (L[j]).1.p) := hid (fun j hj e => by omega)
            have hgz : ¬ (0 : Int) < (k : Int) := by omega
            have hgd : decide (0 < k) = false := decide_eq_false (by omega)
            clear hk0
            go_wp2
            go_quiet (fail)
            obtain ⟨wq, hwq⟩ : ∃ wq, wr.drewN nq = wq := ⟨_, rfl⟩
            have hsq : ∀ j, wq.heap[j]? = wz.heap[j]? := fun j => by obtain ⟨q, hq⟩ := HQ.out; rw [← hwq, hq]; rw [S3.drewN_heap, S3.drewN_heap]
            have hbz : Below wz.heap.size wz wq := by obtain ⟨q, hq⟩ := HQ.out; rw [← hwq, hq]; exact S3.below_drewN (S3.below_drewN (Below.refl _ wz) q) _
            have hbq : Below w.heap.size w wq := hA.out.2.trans (hbz.mono hA.out.2.size)
            have hoq : wq.ownsRow w.heap.size 61 4 (.slice Ao n co) n VL := by rw [← HVE.out]; exact S3.row_under hA.out.1 hbz
            have HOQ := hid hoq
            have HBQ := hid hbq
            have hsz := hbq.size
            have hblq : b < wq.heap.size := by omega
            have hcq0 : wq.cell? ⟨b, off + i * 4, none⟩ = some (.string S0) := (hbq.cell (p := ⟨b, off + i * 4, none⟩) hbl).trans HY0.out
            have hcq1 : wq.cell? ⟨b, off + i * 4 + 1, none⟩ = some (.string C0) := (hbq.cell (p := ⟨b, off + i * 4 + 1, none⟩) hbl).trans HY1.out
            have hcq2 : wq.cell? ⟨b, off + i * 4 + 2, none⟩ = some (.int .i64 pr) := (hbq.cell (p := ⟨b, off + i * 4 + 2, none⟩) hbl).trans HY2.out
            have hcq3 : wq.cell? ⟨b, off + i * 4 + 3, none⟩ = some (.slice qa.1 N0 qa.2) := (hbq.cell (p := ⟨b, off + i * 4 + 3, none⟩) hbl).trans HY3.out
            have hln : Hid ((L.take k ++ (⟨st, cd, pr, cs⟩, qa) :: L.drop k).length = k + (1 + (n - k))) := hid (by rw [List.length_append, List.length_take, List.length_cons, List.length_drop, hLn.out]; omega)
            have hnew : Hid (WtQ w (l.take (i + 1)) (lst s) (L.take k ++ (⟨st, cd, pr, cs⟩, qa) :: L.drop k)) := hid (by rw [htk.out]; exact hso.out.put HSS.out HRI.out k (by rw [hLn.out]; exact hk) hgt.out (fun j hj e => by have := hle.out j hj e; show ¬ pr < _; omega))
            (try rw [hwq])
            clear hsq hbz hbq hoq hVLe z2 hst
            clear hwq
            obtain ⟨W1, hW1⟩ : ∃ W1, (wq.alloc (.cells #[.string S0, .string C0, .int .i64 pr, .slice qa.1 N0 qa.2] 61)).drew = W1 := ⟨_, rfl⟩
            have hown1 : W1.ownsRow wq.heap.size 61 4 (.slice (some ⟨wq.heap.size, 0, none⟩) 1 1) 1 [Value.string S0, .string C0, .int .i64 pr, .slice qa.1 N0 qa.2] := by rw [← hW1]; exact World.ownsRow_lit wq #[.string S0, .string C0, .int .i64 pr, .slice qa.1 N0 qa.2] 1 (Nat.le_refl _) (by unfold maxLen; omega) rfl
            have hb1 : Below wq.heap.size wq W1 := by rw [← hW1]; exact ((Below.refl _ wq).alloc (Nat.le_refl _) _).drew
            have hz1 : Hid (W1.heap.size = wq.heap.size + 1) := hid (by rw [← hW1]; simp)
            have HOWN1 := hid hown1
            have HB1 := hid hb1
            have HW1 := hid hW1
            clear hown1 hb1 hW1
            rcases HOQ.out.2 with ⟨hv, hn0⟩ | ⟨g', cap, cur, hv, hgB, hgh, hnc, hcm, hcs, _⟩
            · injection hv with e1 _ e3
              subst e1
              subst hn0
              subst e3
              obtain rfl : k = 0 := by omega
              have hrun := run_append_owned_none (P := Tryz.prog) (w := W1) wq.heap.size 22 22 61 iC 4 Tryz.underlying22 hiC _ 1 _ HOWN1.out
              have HRUN := hid (show (Builtin.append_ #[22, 22] 22 #[.slice (some ⟨wq.heap.size, 0, none⟩) 1 1, .slice none 0 0]).run Tryz.prog ((wq.alloc (.cells #[.string S0, .string C0, .int .i64 pr, .slice qa.1 N0 qa.2] 61)).drew) = .ok (.slice (some ⟨wq.heap.size, 0, none⟩) 1 1) ((wq.alloc (.cells #[.string S0, .string C0, .int .i64 pr, .slice qa.1 N0 qa.2] 61)).drew) from by rw [HW1.out]; exact hrun)
              have HM2 : Hid (∀ o : Obj, w.heap.size ≤ ((wq.alloc o).drew).heap.size) := hid (fun o => by simp; omega)
              have HM3 : Hid ((0 + 1) * 64 ≤ 140737488355328) := hid (by omega)
              have HM4 : Hid (0 + 1 ≤ maxLen) := hid (by unfold maxLen; omega)
              have HNW : Hid (∀ j u, ([Value.string S0, .string C0, .int .i64 pr, .slice qa.1 N0 qa.2] : List Value)[j]? = some u → ((wq.alloc (.cells #[.string S0, .string C0, .int .i64 pr, .slice qa.1 N0 qa.2] 61)).drew).cell? ((⟨wq.heap.size, 0, none⟩ : Addr).add j) = some u) := hid (fun j u hj => by rw [HW1.out]; exact World.ownsRow.cells HOWN1.out (g := wq.heap.size) rfl j u hj)
              clear hrun
              simp only [show ((0 : Nat) : Int) = 0 from rfl]
              go_upto_region 9 with fail
              go_region_law (first
                | (refine step_append_run (by rfl) _ _ 22 (by rfl) (.slice (some ⟨wq.heap.size, 0, none⟩) 1 1) (.slice none 0 0) (.slice (some ⟨wq.heap.size, 0, none⟩) 1 1) ((wq.alloc (.cells #[.string S0, .string C0, .int .i64 pr, .slice qa.1 N0 qa.2] 61)).drew) (by rfl) (by rfl) HRUN.out ?_)
                | (refine step_append_lies _ (by rfl) _ _ 22 (by rfl) w.heap.size 61 iC (.agg #[.string ⟨#[]⟩, .string ⟨#[]⟩, .int .i64 0, .slice none 0 0]) 4 64 Tryz.underlying22 hiC hzC hsiC hbyC rfl (by omega) (.slice none 0 0) 0 [] (by rfl) (World.ownsRow_nil _ _ _ _)
                    ⟨wq.heap.size, 0, none⟩ 1 1 [Value.string S0, .string C0, .int .i64 pr, .slice qa.1 N0 qa.2] (by rfl) (by rfl) HNW.out HX1.out (by omega) HM4.out HM3.out (HM2.out _) (wq.heap.size + 1) (by simp) ?_
                   intro g7 cap7 w7 hown3 hgrow7 hat7 hlt7
                   have HOWN7 := hid hown3
                   have HG7 : Hid (wq.grownBy w7 none) := hid ⟨hgrow7.os, hgrow7.tape, hgrow7.output, Nat.le_trans (by show wq.heap.size ≤ ((wq.alloc _).drew).heap.size; simp) hgrow7.size, fun k hk hne => (hgrow7.block k (Nat.lt_of_lt_of_le hk (by show wq.heap.size ≤ ((wq.alloc _).drew).heap.size; simp)) hne).trans (heap_alloc_old wq _ hk)⟩
                   clear hown3 hgrow7 hat7 hlt7))
              all_goals
                have HVN : Hid (VL = []) := hid (List.eq_nil_of_length_eq_zero (by rw [hVL.out]))
                have HFIN : Hid (AtQ w.heap.size 61 4 w w7 (.slice (some ⟨g7, 0, none⟩) (0 + 1) cap7) (0 + 1) (VL.take (0 * 4) ++ ([Value.string S0, .string C0, .int .i64 pr, .slice qa.1 N0 qa.2] ++ VL.drop (0 * 4)))) := hid ⟨by
                  rw [HVN.out]
                  exact HOWN7.out, HBQ.out.grown HG7.out hsz (fun k e => by cases e)⟩
                go_wp2_with fail
                go_roundw
                case rel => exact ⟨i + 1, 0 + 1, _, some ⟨g7, 0, none⟩, cap7, rfl, by go_num, by omega, by omega, hid (by rw [hln.out]), hid hnew.out, by rw [hvals.out]; exact HFIN⟩
                case measure => simp [RowKit.intOf]; omega
            · injection hv with e1 _ e3
              subst e1
              subst e3
              have hgl : g' < wq.heap.size := (Array.getElem?_eq_some_iff.1 hgh).1
              obtain ⟨gg, hgg⟩ : ∃ gg, gg = g' := ⟨_, rfl⟩
              have hvl : Hid ((VL.drop (k * 4)).length = (n - k) * 4) := hid (by rw [List.length_drop, hVL.out, ← Nat.sub_mul])
              have hvt : Hid ((VL.take (k * 4)).length = k * 4) := hid (by rw [List.length_take, hVL.out]; exact Nat.min_eq_left (Nat.mul_le_mul_right _ hk))
              obtain ⟨ad, had, hcad⟩ : ∃ ad : Addr, (if co = k then some (⟨gg, 0, none⟩ : Addr) else some ⟨gg, k * 4, none⟩) = some ad ∧ ∀ j u, (VL.drop (k * 4))[j]? = some u → W1.cell? (ad.add j) = some u := by
                by_cases e : co = k
                · refine ⟨⟨gg, 0, none⟩, if_pos e, fun j u hj => ?_⟩
                  have := (List.getElem?_eq_some_iff.1 hj).1
                  rw [hvl.out] at this
                  omega
                · refine ⟨⟨gg, k * 4, none⟩, if_neg e, fun j u hj => ?_⟩
                  rw [Addr.add_lit]
                  have e2 : VL[k * 4 + j]? = some u := by rw [List.getElem?_drop] at hj; exact hj
                  have e3 := World.ownsRow.cells HOQ.out (g := gg) (by rw [hgg]; rfl) (k * 4 + j) u e2
                  rw [Addr.add_lit, Nat.zero_add] at e3
                  exact (HB1.out.cell (p := ⟨gg, k * 4 + j, none⟩) (by rw [hgg]; exact hgl)).trans e3
              obtain ⟨v7, w7, hrun7, hown7, hg7, _, _⟩ := run_append_own_at (P := Tryz.prog) (w := W1) wq.heap.size 22 22 61 iC (.agg #[.string ⟨#[]⟩, .string ⟨#[]⟩, .int .i64 0, .slice none 0 0]) 4 64 Tryz.underlying22 hiC hzC hsiC hbyC rfl (by omega) (.slice (some ⟨wq.heap.size, 0, none⟩) 1 1) 1 [Value.string S0, .string C0, .int .i64 pr, .slice qa.1 N0 qa.2] HOWN1.out ad (n - k) (co - k) (VL.drop (k * 4)) hvl.out hcad (fun u hu => HV1.out u (List.mem_of_mem_drop hu)) (by unfold maxLen; omega) (by omega) (by rw [hz1.out]; omega)
              obtain ⟨g7, cap7, rfl⟩ := row_some hown7 (by omega)
              subst hgg
              have HRUN : Hid ((Builtin.append_ #[22, 22] 22 #[.slice (some ⟨wq.heap.size, 0, none⟩) 1 1, .slice (if co = k then some (⟨gg, 0, none⟩ : Addr) else some ⟨gg, k * 4, none⟩) (n - k) (co - k)]).run Tryz.prog ((wq.alloc (.cells #[.string S0, .string C0, .int .i64 pr, .slice qa.1 N0 qa.2] 61)).drew) = .ok (.slice (some ⟨g7, 0, none⟩) (1 + (n - k)) cap7) w7) := hid (by rw [had, HW1.out]; exact hrun7)
              have hb7 : Below wq.heap.size wq w7 := HB1.out.grown hg7 (by rw [hz1.out]; omega) (fun j e => (World.ownsRow.lt HOWN1.out j e).1)
              have hgh7 : w7.heap[gg]? = some (.cells cur 61 (0, 0)) := (hb7.block gg hgl).trans hgh
              have HB7 := hid hb7
              have HG7 := hid hgh7
              have HOWN7 := hid hown7
              have HOG7 : Hid (w7.ownsRow w.heap.size 61 4 (.slice (some ⟨gg, 0, none⟩) n co) n VL) := hid (S3.row_under HOQ.out hb7)
              have HN1 : Hid (([Value.string S0, .string C0, .int .i64 pr, .slice qa.1 N0 qa.2] ++ VL.drop (k * 4)).length = (1 + (n - k)) * 4) := hid (by rw [List.length_append, hvl.out, Nat.add_mul]; rfl)
              have HN2 : Hid (∀ j u, ([Value.string S0, .string C0, .int .i64 pr, .slice qa.1 N0 qa.2] ++ VL.drop (k * 4))[j]? = some u → w7.cell? ((⟨g7, 0, none⟩ : Addr).add j) = some u) := hid (fun j u hj => World.ownsRow.cells hown7 (g := g7) rfl j u hj)
              have HN3 : Hid (∀ u ∈ [Value.string S0, .string C0, .int .i64 pr, .slice qa.1 N0 qa.2] ++ VL.drop (k * 4), u.oneCell' = true) := hid (fun u hu => by
                rcases List.mem_append.1 hu with hu | hu
                · exact HX1.out u hu
                · exact HV1.out u (List.mem_of_mem_drop hu))
              clear hcad had hrun7 hown7 hg7 hb7 hgh7 hgh
              by_cases hroom : n + 1 ≤ co
              · have HSP : Hid (∀ j, j < ([Value.string S0, .string C0, .int .i64 pr, .slice qa.1 N0 qa.2] ++ VL.drop (k * 4)).length → (w7.cell? ⟨gg, 0 + k * 4 + j, none⟩).isSome = true ∧ w7.frozen? ⟨gg, 0 + k * 4 + j, none⟩ = false) := hid (fun j hj => by
                  rw [HN1.out] at hj
                  refine ⟨?_, ?_⟩
                  · have hjs : 0 + k * 4 + j < cur.size := by rw [hcs]; omega
                    rw [Lib.cell_of_heap HG7.out, Array.getElem?_eq_getElem hjs]; rfl
                  · simp [World.frozen?, HG7.out])
                have HR : Hid (k + (1 + (n - k)) ≤ co) := hid (by omega)
                have HFIN : Hid (AtQ w.heap.size 61 4 w (w7.setCells gg (k * 4) ([Value.string S0, .string C0, .int .i64 pr, .slice qa.1 N0 qa.2] ++ VL.drop (k * 4))) (.slice (some ⟨gg, 0, none⟩) (k + (1 + (n - k))) co) (k + (1 + (n - k))) (VL.take (k * 4) ++ ([Value.string S0, .string C0, .int .i64 pr, .slice qa.1 N0 qa.2] ++ VL.drop (k * 4)))) := hid ⟨row_putG HOG7.out hk HN1.out (by omega) HR.out, (HBQ.out.trans (HB7.out.mono hsz)).trans (below_cellsQ hgB _ _ _)⟩
                have hiz : (k : Int) ≤ (n : Int) := by omega
                have hkc : (k : Int) ≤ (co : Int) := by omega
                have h0z : (0 : Int) ≤ (k : Int) := by omega
                clear hroom
                go_upto_region 9 with fail
                go_region_law (first
                  | (refine step_append_run (by rfl) _ _ 22 (by rfl) (.slice (some ⟨wq.heap.size, 0, none⟩) 1 1) (.slice (if co = k then some (⟨gg, 0, none⟩ : Addr) else some ⟨gg, k * 4, none⟩) (n - k) (co - k)) (.slice (some ⟨g7, 0, none⟩) (1 + (n - k)) cap7) w7 (by rfl) (by rfl) HRUN.out ?_)
                  | (refine step_append_room (by rfl) _ _ 22 (by rfl) 61 iC 4 Tryz.underlying22 hiC hsiC gg 0 k co (by rfl) ⟨g7, 0, none⟩ (1 + (n - k)) cap7 ([Value.string S0, .string C0, .int .i64 pr, .slice qa.1 N0 qa.2] ++ VL.drop (k * 4)) (by rfl) HN1.out HN2.out HN3.out HR.out HSP.out ?_))
                all_goals
                  go_wp2_with fail
                  go_roundw
                  case rel => exact ⟨i + 1, k + (1 + (n - k)), _, some ⟨gg, 0, none⟩, co, rfl, by go_num, by omega, by omega, hid (by rw [hln.out]), hid hnew.out, by rw [hvals.out]; simpa using HFIN⟩
                  case measure => simp [RowKit.intOf]; omega
              · have HF : Hid (co < k + (1 + (n - k))) := hid (by omega)
                have HM1 : Hid (k + (1 + (n - k)) ≤ maxLen) := hid (by unfold maxLen; omega)
                have HM2 : Hid ((k + (1 + (n - k))) * 64 ≤ 140737488355328) := hid (by omega)
                have HO2 : Hid (∀ b', some (⟨gg, 0, none⟩ : Addr) = some b' → ∀ j u, (VL.take (k * 4))[j]? = some u → w7.cell? (b'.add j) = some u) := hid (fun b' e j u hj => by
                  injection e with e
                  subst e
                  rw [List.getElem?_take] at hj
                  split at hj
                  · exact World.ownsRow.cells HOG7.out (g := gg) rfl j u hj
                  · cases hj)
                have hiz : (k : Int) ≤ (n : Int) := by omega
                have hkc : (k : Int) ≤ (co : Int) := by omega
                have h0z : (0 : Int) ≤ (k : Int) := by omega
                clear hroom
                go_upto_region 9 with fail
                go_region_law (first
                  | (refine step_append_run (by rfl) _ _ 22 (by rfl) (.slice (some ⟨wq.heap.size, 0, none⟩) 1 1) (.slice (if co = k then some (⟨gg, 0, none⟩ : Addr) else some ⟨gg, k * 4, none⟩) (n - k) (co - k)) (.slice (some ⟨g7, 0, none⟩) (1 + (n - k)) cap7) w7 (by rfl) (by rfl) HRUN.out ?_)
                  | (refine step_append_grows (by rfl) _ _ 22 (by rfl) 61 iC (.agg #[.string ⟨#[]⟩, .string ⟨#[]⟩, .int .i64 0, .slice none 0 0]) 4 64 Tryz.underlying22 hiC hzC hsiC hbyC rfl (by decide) (some ⟨gg, 0, none⟩) k co (VL.take (k * 4)) (by rfl) (fun h => by cases h) hvt.out HO2.out ⟨g7, 0, none⟩ (1 + (n - k)) cap7 ([Value.string S0, .string C0, .int .i64 pr, .slice qa.1 N0 qa.2] ++ VL.drop (k * 4)) (by rfl) HN1.out HN2.out HN3.out HF.out HM1.out HM2.out ?_
                     intro v8 w8 hown8 hgrow8
                     obtain ⟨g8, cap8, rfl⟩ := row_some hown8 (by omega)
                     have HFIN : Hid (AtQ w.heap.size 61 4 w w8 (.slice (some ⟨g8, 0, none⟩) (k + (1 + (n - k))) cap8) (k + (1 + (n - k))) (VL.take (k * 4) ++ ([Value.string S0, .string C0, .int .i64 pr, .slice qa.1 N0 qa.2] ++ VL.drop (k * 4)))) := hid ⟨rowLow hown8 (Nat.le_trans hsz HB7.out.size), (HBQ.out.trans (HB7.out.mono hsz)).grown hgrow8 (Nat.le_trans hsz HB7.out.size) (fun j e => by cases e)⟩
                     clear hown8 hgrow8))
                all_goals
                  go_wp2_with fail
                  go_roundw
                  case rel => exact ⟨i + 1, k + (1 + (n - k)), _, some ⟨g8, 0, none⟩, cap8, rfl, by go_num, by omega, by omega, hid (by rw [hln.out]), hid hnew.out, by rw [hvals.out]; exact HFIN⟩
                  case measure => simp [RowKit.intOf]; omega
          · obtain ⟨k', hk'⟩ : ∃ k', k' + 1 = k := ⟨k - 1, by omega⟩
            have hkl : k' < L.length := by rw [hLn.out]; omega
            obtain ⟨y, hy⟩ : ∃ y, (L[k']).1.p = y := ⟨_, rfl⟩
            obtain ⟨g, hAo, hc4⟩ : ∃ g, Ao = some ⟨g, 0, none⟩ ∧ wr.cell? ⟨g, k' * 4 + 2, none⟩ = some (.int .i64 y) := by
              rcases hA.out.1.2 with ⟨e, h0⟩ | ⟨g, cap, cur, e, _⟩
              · omega
              · injection e with e1 e2 e3
                have := World.ownsRow.cells hA.out.1 (g := g) (by rw [e1]; rfl) (k' * 4 + 2) (.int .i64 y) (reqVals_get L k' _ (List.getElem?_eq_getElem hkl) 2 _ (by unfold reqVs; rw [← hy]; rfl))
                rw [Addr.add_lit, Nat.zero_add] at this
                exact ⟨g, e1, (World.cell?_of_block (w := wz) (hst g)).trans this⟩
            subst hAo
            have HY := hid hy
            have hgz : (0 : Int) < (k : Int) := by omega
            have hgd : decide (0 < k) = true := decide_eq_true (by omega)
            have q1 : IntKind.i64.wrap ((k : Int) - 1) = (k' : Int) := by rw [show (k : Int) - 1 = (k' : Int) by omega]; exact IntWalk.i64_in _ (by omega)
            have q2 : (k : Int) - 1 = (k' : Int) := by omega
            have q3 : (k' : Int) < (n : Int) := by omega
            have d2 : decide (n ≤ k') = false := decide_eq_false (by omega)
            clear hk0 hy hst
            by_cases hxy : pr < y
            · have hlb : decide (pr < y) = true := decide_eq_true hxy
              have hnx : Hid (∀ j (hj : j < L.length), k' ≤ j → pr < (L[j]).1.p) := hid (fun j hj hkj => by
                rcases Nat.lt_or_ge j k with h | h
                · obtain rfl : j = k' := by omega
                  rw [HY.out]
                  exact hxy
                · exact hgt.out j hj h)
              have hkm : k' < k := by omega
              have hkn : k' ≤ n := by omega
              clear hk' hVLe
              go_wp2
              go_quiet (fail)
              go_wp2
              go_roundw
              case rel => exact ⟨k', by first | rfl | go_num, hkn, hnx, hid (by obtain ⟨q, hq⟩ := HQ.out; exact ⟨q + nq, by rw [hq, World.drewN_drewN]⟩)⟩
              case measure => simp [RowKit.intOf]; omega
            · have hlb : decide (pr < y) = false := decide_eq_false hxy
              have hle : Hid (∀ j (hj : j < L.length), j + 1 = k → ¬ pr < (L[j]).1.p) := hid (fun j hj e => by
                obtain rfl : j = k' := by omega
                rw [HY.out]
                exact hxy)
              clear hk'
              go_wp2
              go_quiet (fail)
              obtain ⟨wq, hwq⟩ : ∃ wq, wr.drewN nq = wq := ⟨_, rfl⟩
              have hsq : ∀ j, wq.heap[j]? = wz.heap[j]? := fun j => by obtain ⟨q, hq⟩ := HQ.out; rw [← hwq, hq]; rw [S3.drewN_heap, S3.drewN_heap]
              have hbz : Below wz.heap.size wz wq := by obtain ⟨q, hq⟩ := HQ.out; rw [← hwq, hq]; exact S3.below_drewN (S3.below_drewN (Below.refl _ wz) q) _
              have hbq : Below w.heap.size w wq := hA.out.2.trans (hbz.mono hA.out.2.size)
              have hoq : wq.ownsRow w.heap.size 61 4 (.slice (some ⟨g, 0, none⟩) n co) n VL := by rw [← HVE.out]; exact S3.row_under hA.out.1 hbz
              have HOQ := hid hoq
              have HBQ := hid hbq
              have hsz := hbq.size
              have hblq : b < wq.heap.size := by omega
              have hcq0 : wq.cell? ⟨b, off + i * 4, none⟩ = some (.string S0) := (hbq.cell (p := ⟨b, off + i * 4, none⟩) hbl).trans HY0.out
              have hcq1 : wq.cell? ⟨b, off + i * 4 + 1, none⟩ = some (.string C0) := (hbq.cell (p := ⟨b, off + i * 4 + 1, none⟩) hbl).trans HY1.out
              have hcq2 : wq.cell? ⟨b, off + i * 4 + 2, none⟩ = some (.int .i64 pr) := (hbq.cell (p := ⟨b, off + i * 4 + 2, none⟩) hbl).trans HY2.out
              have hcq3 : wq.cell? ⟨b, off + i * 4 + 3, none⟩ = some (.slice qa.1 N0 qa.2) := (hbq.cell (p := ⟨b, off + i * 4 + 3, none⟩) hbl).trans HY3.out
              have hln : Hid ((L.take k ++ (⟨st, cd, pr, cs⟩, qa) :: L.drop k).length = k + (1 + (n - k))) := hid (by rw [List.length_append, List.length_take, List.length_cons, List.length_drop, hLn.out]; omega)
              have hnew : Hid (WtQ w (l.take (i + 1)) (lst s) (L.take k ++ (⟨st, cd, pr, cs⟩, qa) :: L.drop k)) := hid (by rw [htk.out]; exact hso.out.put HSS.out HRI.out k (by rw [hLn.out]; exact hk) hgt.out (fun j hj e => by have := hle.out j hj e; show ¬ pr < _; omega))
              (try rw [hwq])
              clear hsq hbz hbq hoq hVLe z2
              clear hwq
              obtain ⟨W1, hW1⟩ : ∃ W1, (wq.alloc (.cells #[.string S0, .string C0, .int .i64 pr, .slice qa.1 N0 qa.2] 61)).drew = W1 := ⟨_, rfl⟩
              have hown1 : W1.ownsRow wq.heap.size 61 4 (.slice (some ⟨wq.heap.size, 0, none⟩) 1 1) 1 [Value.string S0, .string C0, .int .i64 pr, .slice qa.1 N0 qa.2] := by rw [← hW1]; exact World.ownsRow_lit wq #[.string S0, .string C0, .int .i64 pr, .slice qa.1 N0 qa.2] 1 (Nat.le_refl _) (by unfold maxLen; omega) rfl
              have hb1 : Below wq.heap.size wq W1 := by rw [← hW1]; exact ((Below.refl _ wq).alloc (Nat.le_refl _) _).drew
              have hz1 : Hid (W1.heap.size = wq.heap.size + 1) := hid (by rw [← hW1]; simp)
              have HOWN1 := hid hown1
              have HB1 := hid hb1
              have HW1 := hid hW1
              clear hown1 hb1 hW1
              rcases HOQ.out.2 with ⟨hv, hn0⟩ | ⟨g', cap, cur, hv, hgB, hgh, hnc, hcm, hcs, _⟩
              · cases hv
              · injection hv with e1 _ e3
                injection e1 with e1
                injection e1 with e1
                subst e1
                subst e3
                have hgl : g < wq.heap.size := (Array.getElem?_eq_some_iff.1 hgh).1
                obtain ⟨gg, hgg⟩ : ∃ gg, gg = g := ⟨_, rfl⟩
                have hvl : Hid ((VL.drop (k * 4)).length = (n - k) * 4) := hid (by rw [List.length_drop, hVL.out, ← Nat.sub_mul])
                have hvt : Hid ((VL.take (k * 4)).length = k * 4) := hid (by rw [List.length_take, hVL.out]; exact Nat.min_eq_left (Nat.mul_le_mul_right _ hk))
                obtain ⟨ad, had, hcad⟩ : ∃ ad : Addr, (if co = k then some (⟨gg, 0, none⟩ : Addr) else some ⟨gg, k * 4, none⟩) = some ad ∧ ∀ j u, (VL.drop (k * 4))[j]? = some u → W1.cell? (ad.add j) = some u := by
                  by_cases e : co = k
                  · refine ⟨⟨gg, 0, none⟩, if_pos e, fun j u hj => ?_⟩
                    have := (List.getElem?_eq_some_iff.1 hj).1
                    rw [hvl.out] at this
                    omega
                  · refine ⟨⟨gg, k * 4, none⟩, if_neg e, fun j u hj => ?_⟩
                    rw [Addr.add_lit]
                    have e2 : VL[k * 4 + j]? = some u := by rw [List.getElem?_drop] at hj; exact hj
                    have e3 := World.ownsRow.cells HOQ.out (g := gg) (by rw [hgg]; rfl) (k * 4 + j) u e2
                    rw [Addr.add_lit, Nat.zero_add] at e3
                    exact (HB1.out.cell (p := ⟨gg, k * 4 + j, none⟩) (by rw [hgg]; exact hgl)).trans e3
                obtain ⟨v7, w7, hrun7, hown7, hg7, _, _⟩ := run_append_own_at (P := Tryz.prog) (w := W1) wq.heap.size 22 22 61 iC (.agg #[.string ⟨#[]⟩, .string ⟨#[]⟩, .int .i64 0, .slice none 0 0]) 4 64 Tryz.underlying22 hiC hzC hsiC hbyC rfl (by omega) (.slice (some ⟨wq.heap.size, 0, none⟩) 1 1) 1 [Value.string S0, .string C0, .int .i64 pr, .slice qa.1 N0 qa.2] HOWN1.out ad (n - k) (co - k) (VL.drop (k * 4)) hvl.out hcad (fun u hu => HV1.out u (List.mem_of_mem_drop hu)) (by unfold maxLen; omega) (by omega) (by rw [hz1.out]; omega)
                obtain ⟨g7, cap7, rfl⟩ := row_some hown7 (by omega)
                subst hgg
                have HRUN : Hid ((Builtin.append_ #[22, 22] 22 #[.slice (some ⟨wq.heap.size, 0, none⟩) 1 1, .slice (if co = k then some (⟨gg, 0, none⟩ : Addr) else some ⟨gg, k * 4, none⟩) (n - k) (co - k)]).run Tryz.prog ((wq.alloc (.cells #[.string S0, .string C0, .int .i64 pr, .slice qa.1 N0 qa.2] 61)).drew) = .ok (.slice (some ⟨g7, 0, none⟩) (1 + (n - k)) cap7) w7) := hid (by rw [had, HW1.out]; exact hrun7)
                have hb7 : Below wq.heap.size wq w7 := HB1.out.grown hg7 (by rw [hz1.out]; omega) (fun j e => (World.ownsRow.lt HOWN1.out j e).1)
                have hgh7 : w7.heap[gg]? = some (.cells cur 61 (0, 0)) := (hb7.block gg hgl).trans hgh
                have HB7 := hid hb7
                have HG7 := hid hgh7
                have HOWN7 := hid hown7
                have HOG7 : Hid (w7.ownsRow w.heap.size 61 4 (.slice (some ⟨gg, 0, none⟩) n co) n VL) := hid (S3.row_under HOQ.out hb7)
                have HN1 : Hid (([Value.string S0, .string C0, .int .i64 pr, .slice qa.1 N0 qa.2] ++ VL.drop (k * 4)).length = (1 + (n - k)) * 4) := hid (by rw [List.length_append, hvl.out, Nat.add_mul]; rfl)
                have HN2 : Hid (∀ j u, ([Value.string S0, .string C0, .int .i64 pr, .slice qa.1 N0 qa.2] ++ VL.drop (k * 4))[j]? = some u → w7.cell? ((⟨g7, 0, none⟩ : Addr).add j) = some u) := hid (fun j u hj => World.ownsRow.cells hown7 (g := g7) rfl j u hj)
                have HN3 : Hid (∀ u ∈ [Value.string S0, .string C0, .int .i64 pr, .slice qa.1 N0 qa.2] ++ VL.drop (k * 4), u.oneCell' = true) := hid (fun u hu => by
                  rcases List.mem_append.1 hu with hu | hu
                  · exact HX1.out u hu
                  · exact HV1.out u (List.mem_of_mem_drop hu))
                clear hcad had hrun7 hown7 hg7 hb7 hgh7 hgh
                by_cases hroom : n + 1 ≤ co
                · have HSP : Hid (∀ j, j < ([Value.string S0, .string C0, .int .i64 pr, .slice qa.1 N0 qa.2] ++ VL.drop (k * 4)).length → (w7.cell? ⟨gg, 0 + k * 4 + j, none⟩).isSome = true ∧ w7.frozen? ⟨gg, 0 + k * 4 + j, none⟩ = false) := hid (fun j hj => by
                    rw [HN1.out] at hj
                    refine ⟨?_, ?_⟩
                    · have hjs : 0 + k * 4 + j < cur.size := by rw [hcs]; omega
                      rw [Lib.cell_of_heap HG7.out, Array.getElem?_eq_getElem hjs]; rfl
                    · simp [World.frozen?, HG7.out])
                  have HR : Hid (k + (1 + (n - k)) ≤ co) := hid (by omega)
                  have HFIN : Hid (AtQ w.heap.size 61 4 w (w7.setCells gg (k * 4) ([Value.string S0, .string C0, .int .i64 pr, .slice qa.1 N0 qa.2] ++ VL.drop (k * 4))) (.slice (some ⟨gg, 0, none⟩) (k + (1 + (n - k))) co) (k + (1 + (n - k))) (VL.take (k * 4) ++ ([Value.string S0, .string C0, .int .i64 pr, .slice qa.1 N0 qa.2] ++ VL.drop (k * 4)))) := hid ⟨row_putG HOG7.out hk HN1.out (by omega) HR.out, (HBQ.out.trans (HB7.out.mono hsz)).trans (below_cellsQ hgB _ _ _)⟩
                  have hiz : (k : Int) ≤ (n : Int) := by omega
                  have hkc : (k : Int) ≤ (co : Int) := by omega
                  have h0z : (0 : Int) ≤ (k : Int) := by omega
                  clear hroom
                  go_upto_region 9 with fail
                  go_region_law (first
                    | (refine step_append_run (by rfl) _ _ 22 (by rfl) (.slice (some ⟨wq.heap.size, 0, none⟩) 1 1) (.slice (if co = k then some (⟨gg, 0, none⟩ : Addr) else some ⟨gg, k * 4, none⟩) (n - k) (co - k)) (.slice (some ⟨g7, 0, none⟩) (1 + (n - k)) cap7) w7 (by rfl) (by rfl) HRUN.out ?_)
                    | (refine step_append_room (by rfl) _ _ 22 (by rfl) 61 iC 4 Tryz.underlying22 hiC hsiC gg 0 k co (by rfl) ⟨g7, 0, none⟩ (1 + (n - k)) cap7 ([Value.string S0, .string C0, .int .i64 pr, .slice qa.1 N0 qa.2] ++ VL.drop (k * 4)) (by rfl) HN1.out HN2.out HN3.out HR.out HSP.out ?_))
                  all_goals
                    go_wp2_with fail
                    go_roundw
                    case rel => exact ⟨i + 1, k + (1 + (n - k)), _, some ⟨gg, 0, none⟩, co, rfl, by go_num, by omega, by omega, hid (by rw [hln.out]), hid hnew.out, by rw [hvals.out]; simpa using HFIN⟩
                    case measure => simp [RowKit.intOf]; omega
                · have HF : Hid (co < k + (1 + (n - k))) := hid (by omega)
                  have HM1 : Hid (k + (1 + (n - k)) ≤ maxLen) := hid (by unfold maxLen; omega)
                  have HM2 : Hid ((k + (1 + (n - k))) * 64 ≤ 140737488355328) := hid (by omega)
                  have HO2 : Hid (∀ b', some (⟨gg, 0, none⟩ : Addr) = some b' → ∀ j u, (VL.take (k * 4))[j]? = some u → w7.cell? (b'.add j) = some u) := hid (fun b' e j u hj => by
                    injection e with e
                    subst e
                    rw [List.getElem?_take] at hj
                    split at hj
                    · exact World.ownsRow.cells HOG7.out (g := gg) rfl j u hj
                    · cases hj)
                  have hiz : (k : Int) ≤ (n : Int) := by omega
                  have hkc : (k : Int) ≤ (co : Int) := by omega
                  have h0z : (0 : Int) ≤ (k : Int) := by omega
                  clear hroom
                  go_upto_region 9 with fail
                  go_region_law (first
                    | (refine step_append_run (by rfl) _ _ 22 (by rfl) (.slice (some ⟨wq.heap.size, 0, none⟩) 1 1) (.slice (if co = k then some (⟨gg, 0, none⟩ : Addr) else some ⟨gg, k * 4, none⟩) (n - k) (co - k)) (.slice (some ⟨g7, 0, none⟩) (1 + (n - k)) cap7) w7 (by rfl) (by rfl) HRUN.out ?_)
                    | (refine step_append_grows (by rfl) _ _ 22 (by rfl) 61 iC (.agg #[.string ⟨#[]⟩, .string ⟨#[]⟩, .int .i64 0, .slice none 0 0]) 4 64 Tryz.underlying22 hiC hzC hsiC hbyC rfl (by decide) (some ⟨gg, 0, none⟩) k co (VL.take (k * 4)) (by rfl) (fun h => by cases h) hvt.out HO2.out ⟨g7, 0, none⟩ (1 + (n - k)) cap7 ([Value.string S0, .string C0, .int .i64 pr, .slice qa.1 N0 qa.2] ++ VL.drop (k * 4)) (by rfl) HN1.out HN2.out HN3.out HF.out HM1.out HM2.out ?_
                       intro v8 w8 hown8 hgrow8
                       obtain ⟨g8, cap8, rfl⟩ := row_some hown8 (by omega)
                       have HFIN : Hid (AtQ w.heap.size 61 4 w w8 (.slice (some ⟨g8, 0, none⟩) (k + (1 + (n - k))) cap8) (k + (1 + (n - k))) (VL.take (k * 4) ++ ([Value.string S0, .string C0, .int .i64 pr, .slice qa.1 N0 qa.2] ++ VL.drop (k * 4)))) := hid ⟨rowLow hown8 (Nat.le_trans hsz HB7.out.size), (HBQ.out.trans (HB7.out.mono hsz)).grown hgrow8 (Nat.le_trans hsz HB7.out.size) (fun j e => by cases e)⟩
                       clear hown8 hgrow8))
                  all_goals
                    go_wp2_with fail
                    go_roundw
                    case rel => exact ⟨i + 1, k + (1 + (n - k)), _, some ⟨g8, 0, none⟩, cap8, rfl, by go_num, by omega, by omega, hid (by rw [hln.out]), hid hnew.out, by rw [hvals.out]; exact HFIN⟩
                    case measure => simp [RowKit.intOf]; omega
      · have hbe : (S0.toList != s.toList) = true := by rw [tS, ts]; simpa using hs
        have hbe2 : (S0.toList == s.toList) = false := by rw [tS, ts]; simpa using hs
        have HN : Hid (WtQ w (l.take (i + 1)) (lst s) L) := hid (by rw [htk.out]; exact hso.out.skip hs)
        clear hs tS ts
        go_wp2
        go_roundw
        case rel => exact ⟨i + 1, n, L, Ao, co, rfl, by go_num, by omega, by omega, hLn, HN, hA⟩
        case measure => simp [RowKit.intOf]; omega
    · have hltz : ¬ (i : Int) < (l.length : Int) := by omega
      have HEND : Hid (ReqRow wr w.heap.size (fun k => k < w.heap.size) (.slice Ao n co) (wantM l (lst s))) := hid (by
        have h1 := hso.out
        rw [List.take_of_length_le (by omega)] at h1
        have e : (wantM l (lst s)).length = n := by rw [← h1.e, List.length_map, hLn.out]
        exact ⟨L, h1.e, by rw [e]; exact hA.out.1, fun p hp => (h1.i p hp).kept (fun k hk => hA.out.2.block k hk)⟩)
      have HB := hid hA.out.2
      clear hA hso
      go_wp2
      go_ret
      exact ⟨⟨_, rfl, HEND.out⟩, HB.out⟩
end Go.Proofs.YtlgmanbilaminaaGreatDoor.S12
namespace Go.Proofs.YtlgmanbilaminaaGreatDoor.S12
open Go Go.Proofs Go.RowKit Go.Lib Go.Proofs.YtlgmanbilaminaaGreatDoor
set_option maxHeartbeats 8000000 in
set_option maxRecDepth 100000 in
theorem qsame_any (A A' : Option Addr) (l : List ReqD) (c c' : Nat) (P P' : Nat → Prop) (w : World) (h : ReqsIn w P A l) (h' : ReqsIn w P' A' l) (hl : l.length ≤ 9223372036854775807) :
    Calls Tryz.prog 15 #[.slice A l.length c, .slice A' l.length c'] w fun e w' => e = .returned (.bool true) ∧ ∃ q, w' = w.drewN q := by
  have H := hid h
  have H' := hid h'
  clear h h'
  go_enter Tryz.func15, Tryz.ntmps15
  go_wp2
  go_loopw [5] (fun i wr => ∃ k : Nat, i = .int .i64 (k : Int) ∧ k ≤ l.length ∧ Hid (∃ q, wr = w.drewN q)) (fun i _ => l.length - (RowKit.intOf i).toNat)
  case atStart => exact ⟨0, rfl, Nat.zero_le _, hid ⟨0, rfl⟩⟩
  case round =>
    obtain ⟨k, rfl, hk, HQ⟩ := hrel
    by_cases hlt : k < l.length
    · have hltz : (k : Int) < (l.length : Int) := by omega
      have hst : ∀ j, wr.heap[j]? = w.heap[j]? := fun j => by obtain ⟨q, hq⟩ := HQ.out; rw [hq, S3.drewN_heap]
      obtain ⟨b1, o1, ⟨fa1, fc1⟩, rfl, _, hr1, a0, a1, a2, a3⟩ := (H.out.kept (w' := wr) (fun b _ => hst b)).at_ hlt
      obtain ⟨b2, o2, ⟨fa2, fc2⟩, rfl, _, hr2, e0, e1, e2, e3⟩ := (H'.out.kept (w' := wr) (fun b _ => hst b)).at_ hlt
      have cS := fun q => S3.sameStrings_any fa1 fa2 l[k].l l[k].l fc1 fc2 _ _ (wr.drewN q) (hr1.t.kept (fun b _ => by rw [S3.drewN_heap])) (hr2.t.kept (fun b _ => by rw [S3.drewN_heap])) (Nat.le_trans hr1.t1 hr1.t2)
      simp only [decide_true] at cS
      obtain ⟨⟨sd, cd, pd, fs⟩, ht⟩ : ∃ t, l[k] = t := ⟨_, rfl⟩
      rw [ht] at a0 a1 a2 a3 e0 e1 e2 e3
      simp only [ht] at cS
      dsimp only at a0 a1 a2 a3 e0 e1 e2 e3
      obtain ⟨F, hF⟩ : ∃ F, fs.length = F := ⟨_, rfl⟩
      rw [hF] at a3 e3
      simp only [hF] at cS
      obtain ⟨C, hC⟩ : ∃ C, ba cd = C := ⟨_, rfl⟩
      rw [hC] at a1 e1
      obtain ⟨D, hD⟩ : ∃ D, ba sd = D := ⟨_, rfl⟩
      rw [hD] at a0 e0
      have d1 : decide (l.length ≤ k) = false := decide_eq_false (by omega)
      have CS := hid cS
      clear ht hr1 hr2 hF hC hD cS hst
      go_wp2
      go_quiet ((go_at_call 17; with_reducible refine Calls.quiet_of (CS.out _)))
      go_wp2
      go_roundw
      case rel => exact ⟨k + 1, by go_num, by omega, hid (by obtain ⟨q, hq⟩ := HQ.out; exact ⟨q + nq, by rw [hq, World.drewN_drewN]⟩)⟩
      case measure => simp [RowKit.intOf]; omega
    · have hltz : ¬ (k : Int) < (l.length : Int) := by omega
      go_wp2
      go_ret
      exact ⟨rfl, HQ.out⟩
end Go.Proofs.YtlgmanbilaminaaGreatDoor.S12
namespace Go.Proofs.YtlgmanbilaminaaGreatDoor
open Go Go.Proofs Go.RowKit Go.Lib
theorem probVals_get : ∀ (l : List ProbD) (j : Nat) (t : ProbD), l[j]? = some t → ∀ (i : Nat) (v : Value), (probVs t)[i]? = some v → (probVals l)[j * 4 + i]? = some v
  | [], j, t, h, _, _, _ => by simp at h
  | a :: r, 0, t, h, i, v, hv => by
    simp at h
    subst h
    have hi : i < 4 := (List.getElem?_eq_some_iff.1 hv).1
    unfold probVals
    rw [List.flatMap_cons, List.getElem?_append_left (by show _ < 4; omega)]
    simpa using hv
  | a :: r, j + 1, t, h, i, v, hv => by
    have := probVals_get r j t (by simpa using h) i v hv
    unfold probVals at this ⊢
    rw [List.flatMap_cons, List.getElem?_append_right (by show 4 ≤ _; omega)]
    show (List.flatMap probVs r)[(j + 1) * 4 + i - 4]? = _
    rw [show (j + 1) * 4 + i - 4 = j * 4 + i by omega]
    exact this
theorem ProbsRow.cell {w : World} {B : Nat} {v : Value} {l : List ProbD} (h : ProbsRow w B v l) {j : Nat} {p : ProbD} (hj : l[j]? = some p) :
    ∃ g cap, v = .slice (some ⟨g, 0, none⟩) l.length cap ∧ w.cell? ⟨g, j * 4, none⟩ = some (.int .i64 0) ∧ w.cell? ⟨g, j * 4 + 1, none⟩ = some (.int .i64 p.1) ∧ w.cell? ⟨g, j * 4 + 2, none⟩ = some (.int .i64 p.2.1) ∧ w.cell? ⟨g, j * 4 + 3, none⟩ = some (.int .i64 p.2.2) := by
  rcases h.2 with ⟨_, h0⟩ | ⟨g, cap, cur, hv, hB, _⟩
  · have := (List.getElem?_eq_some_iff.1 hj).1
    omega
  · have k : ∀ i u, (probVs p)[i]? = some u → w.cell? ⟨g, j * 4 + i, none⟩ = some u := fun i u hi => by
      have := World.ownsRow.cells h (g := g) (by rw [hv]; rfl) (j * 4 + i) u (probVals_get l j p hj i u hi)
      rwa [Addr.add_lit, Nat.zero_add] at this
    exact ⟨g, cap, hv, k 0 _ rfl, k 1 _ rfl, k 2 _ rfl, k 3 _ rfl⟩
set_option maxHeartbeats 4000000 in
set_option maxRecDepth 100000 in
theorem sameProbs_any (v v' : Value) (ps : List ProbD) (B B' : Nat) (w : World) (h : ProbsRow w B v ps) (h' : ProbsRow w B' v' ps) (hl : ps.length ≤ 1000000000) :
    Calls Tryz.prog 16 #[v, v'] w fun e w' => e = .returned (.bool true) ∧ ∃ q, w' = w.drewN q := by
  obtain ⟨A1, c1, rfl⟩ := S3.row_slice h
  obtain ⟨A2, c2, rfl⟩ := S3.row_slice h'
  have H := hid h
  have H' := hid h'
  clear h h'
  go_enter Tryz.func16, Tryz.ntmps16
  go_wp2
  go_loopw [5] (fun i wr => ∃ k : Nat, i = .int .i64 (k : Int) ∧ k ≤ ps.length ∧ ∃ q, wr = w.drewN q) (fun i _ => ps.length - (RowKit.intOf i).toNat)
  case atStart => exact ⟨0, rfl, Nat.zero_le _, 0, rfl⟩
  case round =>
    obtain ⟨k, rfl, hk, q, rfl⟩ := hrel
    by_cases hlt : k < ps.length
    · have hltz : (k : Int) < (ps.length : Int) := by omega
      obtain ⟨p, hp⟩ : ∃ p, ps[k]? = some p := ⟨_, List.getElem?_eq_getElem hlt⟩
      obtain ⟨g, cap', hv, a0, a1, a2, a3⟩ := H.out.cell hp
      injection hv with hA _ hcp
      subst hA hcp
      obtain ⟨g', cap', hv, b0, b1, b2, b3⟩ := H'.out.cell hp
      injection hv with hA _ hcp
      subst hA hcp
      obtain ⟨pl, pc, pe⟩ := p
      dsimp only at a0 a1 a2 a3 b0 b1 b2 b3
      clear hp
      go_wp2
      go_quiet (fail)
      go_wp2
      go_roundw
      case rel => exact ⟨k + 1, by go_num, by omega, q + nq, by first | rfl | rw [World.drewN_drewN]⟩
      case measure => simp [RowKit.intOf]; omega
    · have hltz : ¬ (k : Int) < (ps.length : Int) := by omega
      go_wp2
      go_ret
      exact ⟨rfl, q, rfl⟩
end Go.Proofs.YtlgmanbilaminaaGreatDoor
