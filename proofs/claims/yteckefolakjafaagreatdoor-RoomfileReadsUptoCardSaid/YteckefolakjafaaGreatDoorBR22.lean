/-
  Ascending of the specification: it returns the strings in order. Conditions: the strings lie in memory, at most 1000 of them.
  The reference's tail and number: a code's last number. Conditions: as the lemmas state.
-/
import Derived.Test.YteckefolakjafaaGreatDoorBR21
import Derived.Test.YteckefolakjafaaGreatDoorBR19
import Derived.Test.YteckefolakjafaaGreatDoorBR14
import Derived.Sort.Walk0
import Derived.BigQuiet
import Derived.StillTailTactics
import Derived.Deep.RegionLaw
import Derived.Deep.RegionLawGrows
import Derived.Deep.AppendLies
import Derived.Deep.DeepCutAuto
import Derived.Deep.CutBlock
import Derived.Laws.OwnMore
import Derived.Maps.AppendAt
import Derived.IntWalk
set_option linter.unusedVariables false
namespace Go.Proofs.YteckefolakjafaaGreatDoor
open Go Go.Proofs Go.RowKit Go.Lib

theorem lt_bits (X Y : ByteArray) : Op.bytesLess X.toList Y.toList = decide (lst X < lst Y) := by
  have e1 : X.toList = lst X := Lib.toList_data X
  have e2 : Y.toList = lst Y := Lib.toList_data Y
  rw [e1, e2, bytesLess_eq]
theorem step_append_run {P : Program} {ops : Array Oper} {o : Oper} {a : Act} {w : World} {K : Act → World → Prop} {Q : Exit → Act → World → Prop} {E : Prop} (hgd : o.guard = none) (s x : Operand) (t : TypeId)
    (ho : o.op = .call { callee := .builtin .append, args := #[s, x], argTypes := #[t, t] }) (v xv r : Value) (w' : World) (hs : a.eval s = v) (hx : a.eval x = xv)
    (hrun : (Builtin.append_ #[t, t] o.type #[v, xv]).run P w = .ok r w') (h : K (a.put o.dst r) w') :
    if Region.wanted o (yielded ops a.tmps) = true then Oper.wp P o a w K Q else E := by
  have hw : Region.wanted o (yielded ops a.tmps) = true := by simp [Region.wanted, hgd]
  rw [if_pos hw]
  unfold Oper.wp execOp
  simp only [ho, resolve, invoke, builtin, Sem.run_bind, Sem.run_pure, Result.andThen_ok, List.map_toArray, List.map_cons, List.map_nil, hs, hx, hrun]
  exact h
theorem row_some {w : World} {B e z n : Nat} {v : Value} {xs : List Value} (h : w.ownsRow B e z v n xs) (hn : 0 < n) : ∃ g cap, v = .slice (some ⟨g, 0, none⟩) n cap := by
  rcases h.2 with ⟨_, h0⟩ | ⟨g, cap, cur, hv, _⟩
  · omega
  · exact ⟨g, cap, hv⟩
theorem rowLow {w : World} {e z n B B' : Nat} {v : Value} {xs : List Value} (h : w.ownsRow B e z v n xs) (hB : B' ≤ B) : w.ownsRow B' e z v n xs := by
  obtain ⟨h1, h2⟩ := h
  refine ⟨h1, ?_⟩
  rcases h2 with h2 | ⟨g, cap, cur, hv, hg, r⟩
  · exact .inl h2
  · exact .inr ⟨g, cap, cur, hv, Nat.le_trans hB hg, r⟩
/-- What holds behind a round. -/
def AscAt (B : Nat) (w w' : World) (v : Value) (n : Nat) (L : List Str) : Prop := w'.ownsRow B 9 1 v n (S3.strVals L) ∧ Below B w w'
set_option maxHeartbeats 8000000 in
set_option maxRecDepth 100000 in
theorem ascending_any (A : Option Addr) (l : List Str) (c : Nat) (w : World) (h : S3.StrsIn w (fun b => b < w.heap.size) A l) (hl : l.length ≤ 1000) :
    Calls Tryz.prog 62 #[.slice A l.length c] w fun e w' => (∃ v, e = .returned v ∧ S3.StrRow w' w.heap.size v (l.mergeSort fun x y => decide (x ≤ y))) ∧ Below w.heap.size w w' := by
  obtain ⟨i9, hi9, hz9, hsi9, hby9⟩ := info_parts S3.infoStr
  have HH := hid h
  clear h
  go_enter Tryz.func62, Tryz.ntmps62
  go_wp2
  go_loopw [3, 4, 5] (fun ov iv _ wr => ∃ (i n : Nat) (L : List Str) (Ao : Option Addr) (co : Nat), ov = .slice Ao n co ∧ iv = .int .i64 (i : Int) ∧ i ≤ l.length ∧ n ≤ 1000 ∧ Hid (L.length = n) ∧ Hid (SortedOf L (l.take i)) ∧ Hid (AscAt w.heap.size w wr (.slice Ao n co) n L)) (fun _ iv _ _ => l.length - (RowKit.intOf iv).toNat)
  case atStart => exact ⟨0, 0, [], none, 0, rfl, rfl, Nat.zero_le _, Nat.zero_le _, hid rfl, hid SortedOf.nil, hid ⟨World.ownsRow_nil _ _ _ _, Below.refl _ _⟩⟩
  case round =>
    obtain ⟨i, n, L, Ao, co, rfl, rfl, hi, hn, hLn, hso, hA⟩ := hrel
    by_cases hlt : i < l.length
    · have hltz : (i : Int) < (l.length : Int) := by omega
      obtain ⟨b, off, rfl, hbl, hc1⟩ := HH.out.at_ hlt
      obtain ⟨x, hx⟩ : ∃ x, l[i] = x := ⟨_, rfl⟩
      have htk : Hid (l.take (i + 1) = l.take i ++ [x]) := hid (by rw [List.take_succ_eq_append_getElem hlt, hx])
      rw [hx] at hc1
      obtain ⟨X, hX⟩ : ∃ X : ByteArray, (⟨x.toArray⟩ : ByteArray) = X := ⟨_, rfl⟩
      have HX : Hid (lst X = x) := hid (by rw [← hX])
      have hsv : Hid (S3.strV x = .string X) := hid (by rw [← hX]; rfl)
      rw [hsv.out] at hc1
      have hin : n ≤ i := by have := hso.out.len; rw [hLn.out, List.length_take] at this; omega
      have hin' : Hid (n = i) := hid (by have := hso.out.len; rw [hLn.out, List.length_take] at this; omega)
      have di : decide (l.length ≤ i) = false := decide_eq_false (by omega)
      go_wp2
      generalize hz : wr = wz at *
      have hc2 : wz.cell? ⟨b, off + i, none⟩ = some (.string X) := (hA.out.2.cell (p := ⟨b, off + i, none⟩) hbl).trans hc1
      have HC2 := hid hc2
      clear hx hX hz hc1 hc2
      go_loopw [5] (fun kv wr2 => ∃ k : Nat, kv = .int .i64 (k : Int) ∧ k ≤ n ∧ Hid (∀ j (hj : j < L.length), k ≤ j → x < L[j]) ∧ Hid (∃ q, wr2 = wz.drewN q)) (fun kv _ => (RowKit.intOf kv).toNat)
      case atStart => exact ⟨n, rfl, Nat.le_refl _, hid (fun j hj h => absurd hj (by rw [hLn.out]; omega)), hid ⟨0, rfl⟩⟩
      case round =>
        obtain ⟨k, rfl, hk, hgt, HQ⟩ := hrel
        have hst : ∀ k, wr.heap[k]? = wz.heap[k]? := fun k => by obtain ⟨q, hq⟩ := HQ.out; rw [hq, S3.drewN_heap]
        have hc3 : wr.cell? ⟨b, off + i, none⟩ = some (.string X) := (World.cell?_of_block (w := wz) (hst b)).trans HC2.out
        rcases Nat.eq_zero_or_pos k with hk0 | hk0
        · have hle : Hid (∀ j (hj : j < L.length), j + 1 = k → ¬ x < L[j]) := hid (fun j hj e => by omega)
          have hgz : ¬ (0 : Int) < (k : Int) := by omega
          have hgd : decide (0 < k) = false := decide_eq_false (by omega)
          clear hk0
          go_wp2
          go_quiet (fail)
          obtain ⟨wq, hwq⟩ : ∃ wq, wr.drewN nq = wq := ⟨_, rfl⟩
          have hsq : ∀ j, wq.heap[j]? = wz.heap[j]? := fun j => by obtain ⟨q, hq⟩ := HQ.out; rw [← hwq, hq, S3.drewN_heap, S3.drewN_heap]
          have hcq : wq.cell? ⟨b, off + i, none⟩ = some (.string X) := (World.cell?_of_block (w := wz) (hsq b)).trans HC2.out
          have hbz : Below wz.heap.size wz wq := by obtain ⟨q, hq⟩ := HQ.out; rw [← hwq, hq]; exact S3.below_drewN (S3.below_drewN (Below.refl _ wz) q) nq
          have hbq : Below w.heap.size w wq := hA.out.2.trans (hbz.mono hA.out.2.size)
          have hoq : wq.ownsRow w.heap.size 9 1 (.slice Ao n co) n (S3.strVals L) := S3.row_under hA.out.1 hbz
          have HOQ := hid hoq
          have HBQ := hid hbq
          have hsz := hbq.size
          have hblq : b < wq.heap.size := by omega
          obtain ⟨W1, hW1⟩ : ∃ W1, (wq.alloc (.cells #[.string X] 9)).drew = W1 := ⟨_, rfl⟩
          have hown1 : W1.ownsRow wq.heap.size 9 1 (.slice (some ⟨wq.heap.size, 0, none⟩) 1 1) 1 [.string X] := by rw [← hW1]; exact World.ownsRow_lit wq #[.string X] 1 (Nat.le_refl _) (by unfold maxLen; omega) rfl
          have hb1 : Below wq.heap.size wq W1 := by rw [← hW1]; exact ((Below.refl _ wq).alloc (Nat.le_refl _) _).drew
          have hz1 : Hid (W1.heap.size = wq.heap.size + 1) := hid (by rw [← hW1]; simp)
          have hnew : Hid (SortedOf (L.take k ++ x :: L.drop k) (l.take (i + 1))) := hid (by rw [htk.out]; exact hso.out.put x k (by rw [hLn.out]; exact hk) hgt.out hle.out)
          have hln : Hid ((L.take k ++ x :: L.drop k).length = k + (1 + (n - k))) := hid (by rw [List.length_append, List.length_take, List.length_cons, List.length_drop, hLn.out]; omega)
          have hvals : Hid (S3.strVals (L.take k ++ x :: L.drop k) = (S3.strVals L).take k ++ .string X :: S3.strVals (L.drop k)) := hid (by rw [S3.strVals_app]; unfold S3.strVals; rw [List.map_take, List.map_cons, hsv.out])
          have hvl : Hid ((S3.strVals (L.drop k)).length = n - k) := hid (by rw [S3.strVals_len, List.length_drop, hLn.out])
          have hvt : Hid (((S3.strVals L).take k).length = k) := hid (by rw [List.length_take, S3.strVals_len, hLn.out]; omega)
          have HOWN1 := hid hown1
          have HB1 := hid hb1
          have HW1 := hid hW1
          (try rw [hwq])
          clear hsq hbz hbq hoq hst hc3 hown1 hb1 hW1
          clear hwq
          rcases HOQ.out.2 with ⟨hv, hn0⟩ | ⟨g, cap, cur, hv, hgB, hgh, hnc, hcm, hcs, _⟩
          · injection hv with e1 _ e3
            subst e1
            subst hn0
            subst e3
            obtain rfl : k = 0 := by omega
            have hrun := run_append_owned_none (P := Tryz.prog) (w := W1) wq.heap.size 43 43 9 i9 1 Tryz.underlying43 hi9 _ 1 _ HOWN1.out
            have HRUN := hid (show (Builtin.append_ #[43, 43] 43 #[.slice (some ⟨wq.heap.size, 0, none⟩) 1 1, .slice none 0 0]).run Tryz.prog ((wq.alloc (.cells #[.string X] 9)).drew) = .ok (.slice (some ⟨wq.heap.size, 0, none⟩) 1 1) ((wq.alloc (.cells #[.string X] 9)).drew) from by rw [HW1.out]; exact hrun)
            have HM2 : Hid (∀ o : Obj, w.heap.size ≤ ((wq.alloc o).drew).heap.size) := hid (fun o => by simp; omega)
            have HM3 : Hid ((0 + 1) * 16 ≤ 140737488355328) := hid (by omega)
            have HM4 : Hid (0 + 1 ≤ maxLen) := hid (by unfold maxLen; omega)
            clear hrun
            simp only [show ((0 : Nat) : Int) = 0 from rfl]
            go_upto_region 8 with fail
            go_region_law (first
              | (refine step_append_run (by rfl) _ _ 43 (by rfl) (.slice (some ⟨wq.heap.size, 0, none⟩) 1 1) (.slice none 0 0) (.slice (some ⟨wq.heap.size, 0, none⟩) 1 1) ((wq.alloc (.cells #[.string X] 9)).drew) (by rfl) (by rfl) HRUN.out ?_)
              | (refine step_append_lies _ (by rfl) _ _ 43 (by rfl) w.heap.size 9 i9 (.string ⟨#[]⟩) 1 16 Tryz.underlying43 hi9 hz9 hsi9 hby9 rfl (by omega) (.slice none 0 0) 0 [] (by rfl) (World.ownsRow_nil _ _ _ _)
                  ⟨wq.heap.size, 0, none⟩ 1 1 [.string X] (by rfl) (by rfl) (one_new wq (.string X) 9) (S3.one_str _) (by omega) HM4.out HM3.out (HM2.out _) (wq.heap.size + 1) (by simp) ?_
                 intro g7 cap7 w7 hown3 hgrow7 hat7 hlt7
                 have HOWN7 := hid hown3
                 have HG7 : Hid (wq.grownBy w7 none) := hid ⟨hgrow7.os, hgrow7.tape, hgrow7.output, Nat.le_trans (by show wq.heap.size ≤ ((wq.alloc _).drew).heap.size; simp) hgrow7.size, fun k hk hne => (hgrow7.block k (Nat.lt_of_lt_of_le hk (by show wq.heap.size ≤ ((wq.alloc _).drew).heap.size; simp)) hne).trans (heap_alloc_old wq _ hk)⟩
                 clear hown3 hgrow7 hat7 hlt7))
            all_goals
              have HFIN : Hid (AscAt w.heap.size w w7 (.slice (some ⟨g7, 0, none⟩) (0 + 1) cap7) (0 + 1) (L.take 0 ++ x :: L.drop 0)) := hid ⟨by
                have e : S3.strVals (L.take 0 ++ x :: L.drop 0) = [.string X] := by
                  rw [hvals.out, show L.drop 0 = L from rfl, List.eq_nil_of_length_eq_zero hLn.out]
                  rfl
                rw [e]
                exact HOWN7.out, HBQ.out.grown HG7.out hsz (fun k e => by cases e)⟩
              go_wp2_with fail
              go_roundw
              case rel => exact ⟨i + 1, 0 + 1, _, some ⟨g7, 0, none⟩, cap7, rfl, by go_num, by omega, by omega, hid (by rw [hln.out]), hid hnew.out, HFIN⟩
              case measure => simp [RowKit.intOf]; omega
          · injection hv with e1 _ e3
            subst e1
            subst e3
            have hgl : g < wq.heap.size := (Array.getElem?_eq_some_iff.1 hgh).1
            have hn1000 : n ≤ 1000 := hn
            obtain ⟨ad, had, hcad⟩ : ∃ ad : Addr, (if co = k then some (⟨g, 0, none⟩ : Addr) else some ⟨g, k, none⟩) = some ad ∧ ∀ j u, (S3.strVals (L.drop k))[j]? = some u → W1.cell? (ad.add j) = some u := by
              by_cases e : co = k
              · refine ⟨⟨g, 0, none⟩, if_pos e, fun j u hj => ?_⟩
                have := (List.getElem?_eq_some_iff.1 hj).1
                rw [hvl.out] at this
                omega
              · refine ⟨⟨g, k, none⟩, if_neg e, fun j u hj => ?_⟩
                rw [Addr.add_lit]
                have e2 : (S3.strVals L)[k + j]? = some u := by
                  unfold S3.strVals at hj ⊢
                  rw [List.map_drop, List.getElem?_drop] at hj
                  exact hj
                have e3 := World.ownsRow.cells HOQ.out (g := g) rfl (k + j) u e2
                rw [Addr.add_lit, Nat.zero_add] at e3
                exact (HB1.out.cell (p := ⟨g, k + j, none⟩) hgl).trans e3
            obtain ⟨v7, w7, hrun7, hown7, hg7, _, _⟩ := run_append_own_at (P := Tryz.prog) (w := W1) wq.heap.size 43 43 9 i9 (.string ⟨#[]⟩) 1 16 Tryz.underlying43 hi9 hz9 hsi9 hby9 rfl (by omega) (.slice (some ⟨wq.heap.size, 0, none⟩) 1 1) 1 [.string X] HOWN1.out ad (n - k) (co - k) (S3.strVals (L.drop k)) (by rw [hvl.out, Nat.mul_one]) hcad (fun u hu => by unfold S3.strVals at hu; obtain ⟨s, _, rfl⟩ := List.mem_map.1 hu; rfl) (by unfold maxLen; omega) (by omega) (by rw [hz1.out]; omega)
            obtain ⟨g7, cap7, rfl⟩ := row_some hown7 (by omega)
            have HRUN : Hid ((Builtin.append_ #[43, 43] 43 #[.slice (some ⟨wq.heap.size, 0, none⟩) 1 1, .slice (if co = k then some (⟨g, 0, none⟩ : Addr) else some ⟨g, k, none⟩) (n - k) (co - k)]).run Tryz.prog ((wq.alloc (.cells #[.string X] 9)).drew) = .ok (.slice (some ⟨g7, 0, none⟩) (1 + (n - k)) cap7) w7) := hid (by rw [had, HW1.out]; exact hrun7)
            have hb7 : Below wq.heap.size wq w7 := HB1.out.grown hg7 (by rw [hz1.out]; omega) (fun j e => (World.ownsRow.lt HOWN1.out j e).1)
            have hgh7 : w7.heap[g]? = some (.cells cur 9 (0, 0)) := (hb7.block g hgl).trans hgh
            have HB7 := hid hb7
            have HG7 := hid hgh7
            have HOWN7 := hid hown7
            have HOG7 : Hid (w7.ownsRow w.heap.size 9 1 (.slice (some ⟨g, 0, none⟩) n co) n (S3.strVals L)) := hid (S3.row_under HOQ.out hb7)
            have HN1 : Hid ((Value.string X :: S3.strVals (L.drop k)).length = (1 + (n - k)) * 1) := hid (by rw [List.length_cons, hvl.out]; omega)
            have HN2 : Hid (∀ j u, (Value.string X :: S3.strVals (L.drop k))[j]? = some u → w7.cell? ((⟨g7, 0, none⟩ : Addr).add j) = some u) := hid (fun j u hj => World.ownsRow.cells hown7 (g := g7) rfl j u hj)
            have HN3 : Hid (∀ u ∈ Value.string X :: S3.strVals (L.drop k), u.oneCell' = true) := hid (fun u hu => by
              rcases List.mem_cons.1 hu with rfl | hu
              · rfl
              · unfold S3.strVals at hu; obtain ⟨s, _, rfl⟩ := List.mem_map.1 hu; rfl)
            clear hcad had hrun7 hown7 hg7 hb7 hgh7 hgh
            by_cases hroom : n + 1 ≤ co
            · have HSP : Hid (∀ j, j < (Value.string X :: S3.strVals (L.drop k)).length → (w7.cell? ⟨g, 0 + k * 1 + j, none⟩).isSome = true ∧ w7.frozen? ⟨g, 0 + k * 1 + j, none⟩ = false) := hid (fun j hj => by
                rw [HN1.out] at hj
                refine ⟨?_, ?_⟩
                · have hjs : 0 + k * 1 + j < cur.size := by rw [hcs]; omega
                  rw [Lib.cell_of_heap HG7.out, Array.getElem?_eq_getElem hjs]; rfl
                · simp [World.frozen?, HG7.out])
              have HR : Hid (k + (1 + (n - k)) ≤ co) := hid (by omega)
              have HFIN : Hid (AscAt w.heap.size w (w7.setCells g k (Value.string X :: S3.strVals (L.drop k))) (.slice (some ⟨g, 0, none⟩) (k + (1 + (n - k))) co) (k + (1 + (n - k))) (L.take k ++ x :: L.drop k)) := hid ⟨by
                rw [hvals.out]
                have h := row_put (news := Value.string X :: S3.strVals (L.drop k)) HOG7.out hk (by rw [HN1.out]; omega) (by rw [HN1.out]; omega)
                rw [HN1.out, Nat.mul_one] at h
                exact h, (HBQ.out.trans (HB7.out.mono hsz)).trans (below_cells hgB _ _ _)⟩
              have hiz : (k : Int) ≤ (n : Int) := by omega
              have hkc : (k : Int) ≤ (co : Int) := by omega
              have h0z : (0 : Int) ≤ (k : Int) := by omega
              clear hroom
              go_upto_region 8 with fail
              go_region_law (first
                | (refine step_append_run (by rfl) _ _ 43 (by rfl) (.slice (some ⟨wq.heap.size, 0, none⟩) 1 1) (.slice (if co = k then some (⟨g, 0, none⟩ : Addr) else some ⟨g, k, none⟩) (n - k) (co - k)) (.slice (some ⟨g7, 0, none⟩) (1 + (n - k)) cap7) w7 (by rfl) (by rfl) HRUN.out ?_)
                | (refine step_append_room (by rfl) _ _ 43 (by rfl) 9 i9 1 Tryz.underlying43 hi9 hsi9 g 0 k co (by rfl) ⟨g7, 0, none⟩ (1 + (n - k)) cap7 (Value.string X :: S3.strVals (L.drop k)) (by rfl) HN1.out HN2.out HN3.out HR.out HSP.out ?_))
              all_goals
                go_wp2_with fail
                go_roundw
                case rel => exact ⟨i + 1, k + (1 + (n - k)), _, some ⟨g, 0, none⟩, co, rfl, by go_num, by omega, by omega, hid (by rw [hln.out]), hid hnew.out, by simpa using HFIN⟩
                case measure => simp [RowKit.intOf]; omega
            · have HF : Hid (co < k + (1 + (n - k))) := hid (by omega)
              have HM1 : Hid (k + (1 + (n - k)) ≤ maxLen) := hid (by unfold maxLen; omega)
              have HM2 : Hid ((k + (1 + (n - k))) * 16 ≤ 140737488355328) := hid (by omega)
              have HO1 : Hid (((S3.strVals L).take k).length = k * 1) := hid (by rw [hvt.out, Nat.mul_one])
              have HO2 : Hid (∀ b', some (⟨g, 0, none⟩ : Addr) = some b' → ∀ j u, ((S3.strVals L).take k)[j]? = some u → w7.cell? (b'.add j) = some u) := hid (fun b' e j u hj => by
                injection e with e
                subst e
                rw [List.getElem?_take] at hj
                split at hj
                · exact World.ownsRow.cells HOG7.out (g := g) rfl j u hj
                · cases hj)
              have hiz : (k : Int) ≤ (n : Int) := by omega
              have hkc : (k : Int) ≤ (co : Int) := by omega
              have h0z : (0 : Int) ≤ (k : Int) := by omega
              clear hroom
              go_upto_region 8 with fail
              go_region_law (first
                | (refine step_append_run (by rfl) _ _ 43 (by rfl) (.slice (some ⟨wq.heap.size, 0, none⟩) 1 1) (.slice (if co = k then some (⟨g, 0, none⟩ : Addr) else some ⟨g, k, none⟩) (n - k) (co - k)) (.slice (some ⟨g7, 0, none⟩) (1 + (n - k)) cap7) w7 (by rfl) (by rfl) HRUN.out ?_)
                | (refine step_append_grows (by rfl) _ _ 43 (by rfl) 9 i9 (.string ⟨#[]⟩) 1 16 Tryz.underlying43 hi9 hz9 hsi9 hby9 rfl (by decide) (some ⟨g, 0, none⟩) k co ((S3.strVals L).take k) (by rfl) (fun h => by cases h) HO1.out HO2.out ⟨g7, 0, none⟩ (1 + (n - k)) cap7 (Value.string X :: S3.strVals (L.drop k)) (by rfl) HN1.out HN2.out HN3.out HF.out HM1.out HM2.out ?_
                   intro v8 w8 hown8 hgrow8
                   obtain ⟨g8, cap8, rfl⟩ := row_some hown8 (by omega)
                   have HFIN : Hid (AscAt w.heap.size w w8 (.slice (some ⟨g8, 0, none⟩) (k + (1 + (n - k))) cap8) (k + (1 + (n - k))) (L.take k ++ x :: L.drop k)) := hid ⟨by
                     rw [hvals.out]
                     exact rowLow hown8 (Nat.le_trans hsz HB7.out.size), (HBQ.out.trans (HB7.out.mono hsz)).grown hgrow8 (Nat.le_trans hsz HB7.out.size) (fun j e => by cases e)⟩
                   clear hown8 hgrow8))
              all_goals
                go_wp2_with fail
                go_roundw
                case rel => exact ⟨i + 1, k + (1 + (n - k)), _, some ⟨g8, 0, none⟩, cap8, rfl, by go_num, by omega, by omega, hid (by rw [hln.out]), hid hnew.out, HFIN⟩
                case measure => simp [RowKit.intOf]; omega
        · obtain ⟨k', hk'⟩ : ∃ k', k' + 1 = k := ⟨k - 1, by omega⟩
          have hkl : k' < L.length := by rw [hLn.out]; omega
          obtain ⟨y, hy⟩ : ∃ y, L[k'] = y := ⟨_, rfl⟩
          obtain ⟨Y, hY⟩ : ∃ Y : ByteArray, (⟨y.toArray⟩ : ByteArray) = Y := ⟨_, rfl⟩
          obtain ⟨g, hAo, hc4⟩ : ∃ g, Ao = some ⟨g, 0, none⟩ ∧ wr.cell? ⟨g, k', none⟩ = some (.string Y) := by
            rcases hA.out.1.2 with ⟨e, h0⟩ | ⟨g, cap, cur, e, _⟩
            · omega
            · injection e with e1 e2 e3
              have := World.ownsRow.cells hA.out.1 (g := g) (by rw [e1]; rfl) k' (.string Y) (by unfold S3.strVals; rw [List.getElem?_map, List.getElem?_eq_getElem hkl, hy, ← hY]; rfl)
              rw [Addr.add_lit, Nat.zero_add] at this
              exact ⟨g, e1, (World.cell?_of_block (w := wz) (hst g)).trans this⟩
          subst hAo
          have hlb := lt_bits X Y
          rw [HX.out, show lst Y = y by rw [← hY]] at hlb
          have HY := hid hy
          have hgz : (0 : Int) < (k : Int) := by omega
          have hgd : decide (0 < k) = true := decide_eq_true (by omega)
          have q1 : IntKind.i64.wrap ((k : Int) - 1) = (k' : Int) := by rw [show (k : Int) - 1 = (k' : Int) by omega]; exact IntWalk.i64_in _ (by omega)
          have q2 : (k : Int) - 1 = (k' : Int) := by omega
          have q3 : (k' : Int) < (n : Int) := by omega
          have d2 : decide (n ≤ k') = false := decide_eq_false (by omega)
          clear hk0 hy hY hst
          by_cases hxy : x < y
          · rw [decide_eq_true hxy] at hlb
            have hnx : Hid (∀ j (hj : j < L.length), k' ≤ j → x < L[j]) := hid (fun j hj hkj => by
              rcases Nat.lt_or_ge j k with h | h
              · obtain rfl : j = k' := by omega
                rw [HY.out]
                exact hxy
              · exact hgt.out j hj h)
            have hkm : k' < k := by omega
            have hkn : k' ≤ n := by omega
            clear hxy hk'
            go_wp2
            go_quiet (fail)
            go_wp2
            go_roundw
            case rel => exact ⟨k', by first | rfl | go_num, hkn, hnx, hid (by obtain ⟨q, hq⟩ := HQ.out; exact ⟨q + nq, by rw [hq, World.drewN_drewN]⟩)⟩
            case measure => simp [RowKit.intOf]; omega
          · rw [decide_eq_false hxy] at hlb
            have hle : Hid (∀ j (hj : j < L.length), j + 1 = k → ¬ x < L[j]) := hid (fun j hj e => by
              obtain rfl : j = k' := by omega
              rw [HY.out]
              exact hxy)
            clear hxy hk'
            go_wp2
            go_quiet (fail)
            obtain ⟨wq, hwq⟩ : ∃ wq, wr.drewN nq = wq := ⟨_, rfl⟩
            have hsq : ∀ j, wq.heap[j]? = wz.heap[j]? := fun j => by obtain ⟨q, hq⟩ := HQ.out; rw [← hwq, hq, S3.drewN_heap, S3.drewN_heap]
            have hcq : wq.cell? ⟨b, off + i, none⟩ = some (.string X) := (World.cell?_of_block (w := wz) (hsq b)).trans HC2.out
            have hbz : Below wz.heap.size wz wq := by obtain ⟨q, hq⟩ := HQ.out; rw [← hwq, hq]; exact S3.below_drewN (S3.below_drewN (Below.refl _ wz) q) nq
            have hbq : Below w.heap.size w wq := hA.out.2.trans (hbz.mono hA.out.2.size)
            have hoq : wq.ownsRow w.heap.size 9 1 (.slice (some ⟨g, 0, none⟩) n co) n (S3.strVals L) := S3.row_under hA.out.1 hbz
            have HOQ := hid hoq
            have HBQ := hid hbq
            have hsz := hbq.size
            have hblq : b < wq.heap.size := by omega
            obtain ⟨W1, hW1⟩ : ∃ W1, (wq.alloc (.cells #[.string X] 9)).drew = W1 := ⟨_, rfl⟩
            have hown1 : W1.ownsRow wq.heap.size 9 1 (.slice (some ⟨wq.heap.size, 0, none⟩) 1 1) 1 [.string X] := by rw [← hW1]; exact World.ownsRow_lit wq #[.string X] 1 (Nat.le_refl _) (by unfold maxLen; omega) rfl
            have hb1 : Below wq.heap.size wq W1 := by rw [← hW1]; exact ((Below.refl _ wq).alloc (Nat.le_refl _) _).drew
            have hz1 : Hid (W1.heap.size = wq.heap.size + 1) := hid (by rw [← hW1]; simp)
            have hnew : Hid (SortedOf (L.take k ++ x :: L.drop k) (l.take (i + 1))) := hid (by rw [htk.out]; exact hso.out.put x k (by rw [hLn.out]; exact hk) hgt.out hle.out)
            have hln : Hid ((L.take k ++ x :: L.drop k).length = k + (1 + (n - k))) := hid (by rw [List.length_append, List.length_take, List.length_cons, List.length_drop, hLn.out]; omega)
            have hvals : Hid (S3.strVals (L.take k ++ x :: L.drop k) = (S3.strVals L).take k ++ .string X :: S3.strVals (L.drop k)) := hid (by rw [S3.strVals_app]; unfold S3.strVals; rw [List.map_take, List.map_cons, hsv.out])
            have hvl : Hid ((S3.strVals (L.drop k)).length = n - k) := hid (by rw [S3.strVals_len, List.length_drop, hLn.out])
            have hvt : Hid (((S3.strVals L).take k).length = k) := hid (by rw [List.length_take, S3.strVals_len, hLn.out]; omega)
            have HOWN1 := hid hown1
            have HB1 := hid hb1
            have HW1 := hid hW1
            (try rw [hwq])
            clear hsq hbz hbq hoq hc3 hown1 hb1 hW1
            clear hwq
            rcases HOQ.out.2 with ⟨hv, _⟩ | ⟨g', cap, cur, hv, hgB, hgh, hnc, hcm, hcs, _⟩
            · cases hv
            · injection hv with e1 _ e3
              injection e1 with e1
              injection e1 with e1
              subst e1
              subst e3
              have hgl : g < wq.heap.size := (Array.getElem?_eq_some_iff.1 hgh).1
              have hn1000 : n ≤ 1000 := hn
              obtain ⟨ad, had, hcad⟩ : ∃ ad : Addr, (if co = k then some (⟨g, 0, none⟩ : Addr) else some ⟨g, k, none⟩) = some ad ∧ ∀ j u, (S3.strVals (L.drop k))[j]? = some u → W1.cell? (ad.add j) = some u := by
                by_cases e : co = k
                · refine ⟨⟨g, 0, none⟩, if_pos e, fun j u hj => ?_⟩
                  have := (List.getElem?_eq_some_iff.1 hj).1
                  rw [hvl.out] at this
                  omega
                · refine ⟨⟨g, k, none⟩, if_neg e, fun j u hj => ?_⟩
                  rw [Addr.add_lit]
                  have e2 : (S3.strVals L)[k + j]? = some u := by
                    unfold S3.strVals at hj ⊢
                    rw [List.map_drop, List.getElem?_drop] at hj
                    exact hj
                  have e3 := World.ownsRow.cells HOQ.out (g := g) rfl (k + j) u e2
                  rw [Addr.add_lit, Nat.zero_add] at e3
                  exact (HB1.out.cell (p := ⟨g, k + j, none⟩) hgl).trans e3
              obtain ⟨v7, w7, hrun7, hown7, hg7, _, _⟩ := run_append_own_at (P := Tryz.prog) (w := W1) wq.heap.size 43 43 9 i9 (.string ⟨#[]⟩) 1 16 Tryz.underlying43 hi9 hz9 hsi9 hby9 rfl (by omega) (.slice (some ⟨wq.heap.size, 0, none⟩) 1 1) 1 [.string X] HOWN1.out ad (n - k) (co - k) (S3.strVals (L.drop k)) (by rw [hvl.out, Nat.mul_one]) hcad (fun u hu => by unfold S3.strVals at hu; obtain ⟨s, _, rfl⟩ := List.mem_map.1 hu; rfl) (by unfold maxLen; omega) (by omega) (by rw [hz1.out]; omega)
              obtain ⟨g7, cap7, rfl⟩ := row_some hown7 (by omega)
              have HRUN : Hid ((Builtin.append_ #[43, 43] 43 #[.slice (some ⟨wq.heap.size, 0, none⟩) 1 1, .slice (if co = k then some (⟨g, 0, none⟩ : Addr) else some ⟨g, k, none⟩) (n - k) (co - k)]).run Tryz.prog ((wq.alloc (.cells #[.string X] 9)).drew) = .ok (.slice (some ⟨g7, 0, none⟩) (1 + (n - k)) cap7) w7) := hid (by rw [had, HW1.out]; exact hrun7)
              have hb7 : Below wq.heap.size wq w7 := HB1.out.grown hg7 (by rw [hz1.out]; omega) (fun j e => (World.ownsRow.lt HOWN1.out j e).1)
              have hgh7 : w7.heap[g]? = some (.cells cur 9 (0, 0)) := (hb7.block g hgl).trans hgh
              have HB7 := hid hb7
              have HG7 := hid hgh7
              have HOWN7 := hid hown7
              have HOG7 : Hid (w7.ownsRow w.heap.size 9 1 (.slice (some ⟨g, 0, none⟩) n co) n (S3.strVals L)) := hid (S3.row_under HOQ.out hb7)
              have HN1 : Hid ((Value.string X :: S3.strVals (L.drop k)).length = (1 + (n - k)) * 1) := hid (by rw [List.length_cons, hvl.out]; omega)
              have HN2 : Hid (∀ j u, (Value.string X :: S3.strVals (L.drop k))[j]? = some u → w7.cell? ((⟨g7, 0, none⟩ : Addr).add j) = some u) := hid (fun j u hj => World.ownsRow.cells hown7 (g := g7) rfl j u hj)
              have HN3 : Hid (∀ u ∈ Value.string X :: S3.strVals (L.drop k), u.oneCell' = true) := hid (fun u hu => by
                rcases List.mem_cons.1 hu with rfl | hu
                · rfl
                · unfold S3.strVals at hu; obtain ⟨s, _, rfl⟩ := List.mem_map.1 hu; rfl)
              clear hcad had hrun7 hown7 hg7 hb7 hgh7 hgh
              by_cases hroom : n + 1 ≤ co
              · have HSP : Hid (∀ j, j < (Value.string X :: S3.strVals (L.drop k)).length → (w7.cell? ⟨g, 0 + k * 1 + j, none⟩).isSome = true ∧ w7.frozen? ⟨g, 0 + k * 1 + j, none⟩ = false) := hid (fun j hj => by
                  rw [HN1.out] at hj
                  refine ⟨?_, ?_⟩
                  · have hjs : 0 + k * 1 + j < cur.size := by rw [hcs]; omega
                    rw [Lib.cell_of_heap HG7.out, Array.getElem?_eq_getElem hjs]; rfl
                  · simp [World.frozen?, HG7.out])
                have HR : Hid (k + (1 + (n - k)) ≤ co) := hid (by omega)
                have HFIN : Hid (AscAt w.heap.size w (w7.setCells g k (Value.string X :: S3.strVals (L.drop k))) (.slice (some ⟨g, 0, none⟩) (k + (1 + (n - k))) co) (k + (1 + (n - k))) (L.take k ++ x :: L.drop k)) := hid ⟨by
                  rw [hvals.out]
                  have h := row_put (news := Value.string X :: S3.strVals (L.drop k)) HOG7.out hk (by rw [HN1.out]; omega) (by rw [HN1.out]; omega)
                  rw [HN1.out, Nat.mul_one] at h
                  exact h, (HBQ.out.trans (HB7.out.mono hsz)).trans (below_cells hgB _ _ _)⟩
                have hiz : (k : Int) ≤ (n : Int) := by omega
                have hkc : (k : Int) ≤ (co : Int) := by omega
                have h0z : (0 : Int) ≤ (k : Int) := by omega
                clear hroom
                go_upto_region 8 with fail
                go_region_law (first
                  | (refine step_append_run (by rfl) _ _ 43 (by rfl) (.slice (some ⟨wq.heap.size, 0, none⟩) 1 1) (.slice (if co = k then some (⟨g, 0, none⟩ : Addr) else some ⟨g, k, none⟩) (n - k) (co - k)) (.slice (some ⟨g7, 0, none⟩) (1 + (n - k)) cap7) w7 (by rfl) (by rfl) HRUN.out ?_)
                  | (refine step_append_room (by rfl) _ _ 43 (by rfl) 9 i9 1 Tryz.underlying43 hi9 hsi9 g 0 k co (by rfl) ⟨g7, 0, none⟩ (1 + (n - k)) cap7 (Value.string X :: S3.strVals (L.drop k)) (by rfl) HN1.out HN2.out HN3.out HR.out HSP.out ?_))
                all_goals
                  go_wp2_with fail
                  go_roundw
                  case rel => exact ⟨i + 1, k + (1 + (n - k)), _, some ⟨g, 0, none⟩, co, rfl, by go_num, by omega, by omega, hid (by rw [hln.out]), hid hnew.out, by simpa using HFIN⟩
                  case measure => simp [RowKit.intOf]; omega
              · have HF : Hid (co < k + (1 + (n - k))) := hid (by omega)
                have HM1 : Hid (k + (1 + (n - k)) ≤ maxLen) := hid (by unfold maxLen; omega)
                have HM2 : Hid ((k + (1 + (n - k))) * 16 ≤ 140737488355328) := hid (by omega)
                have HO1 : Hid (((S3.strVals L).take k).length = k * 1) := hid (by rw [hvt.out, Nat.mul_one])
                have HO2 : Hid (∀ b', some (⟨g, 0, none⟩ : Addr) = some b' → ∀ j u, ((S3.strVals L).take k)[j]? = some u → w7.cell? (b'.add j) = some u) := hid (fun b' e j u hj => by
                  injection e with e
                  subst e
                  rw [List.getElem?_take] at hj
                  split at hj
                  · exact World.ownsRow.cells HOG7.out (g := g) rfl j u hj
                  · cases hj)
                have hiz : (k : Int) ≤ (n : Int) := by omega
                have hkc : (k : Int) ≤ (co : Int) := by omega
                have h0z : (0 : Int) ≤ (k : Int) := by omega
                clear hroom
                go_upto_region 8 with fail
                go_region_law (first
                  | (refine step_append_run (by rfl) _ _ 43 (by rfl) (.slice (some ⟨wq.heap.size, 0, none⟩) 1 1) (.slice (if co = k then some (⟨g, 0, none⟩ : Addr) else some ⟨g, k, none⟩) (n - k) (co - k)) (.slice (some ⟨g7, 0, none⟩) (1 + (n - k)) cap7) w7 (by rfl) (by rfl) HRUN.out ?_)
                  | (refine step_append_grows (by rfl) _ _ 43 (by rfl) 9 i9 (.string ⟨#[]⟩) 1 16 Tryz.underlying43 hi9 hz9 hsi9 hby9 rfl (by decide) (some ⟨g, 0, none⟩) k co ((S3.strVals L).take k) (by rfl) (fun h => by cases h) HO1.out HO2.out ⟨g7, 0, none⟩ (1 + (n - k)) cap7 (Value.string X :: S3.strVals (L.drop k)) (by rfl) HN1.out HN2.out HN3.out HF.out HM1.out HM2.out ?_
                     intro v8 w8 hown8 hgrow8
                     obtain ⟨g8, cap8, rfl⟩ := row_some hown8 (by omega)
                     have HFIN : Hid (AscAt w.heap.size w w8 (.slice (some ⟨g8, 0, none⟩) (k + (1 + (n - k))) cap8) (k + (1 + (n - k))) (L.take k ++ x :: L.drop k)) := hid ⟨by
                       rw [hvals.out]
                       exact rowLow hown8 (Nat.le_trans hsz HB7.out.size), (HBQ.out.trans (HB7.out.mono hsz)).grown hgrow8 (Nat.le_trans hsz HB7.out.size) (fun j e => by cases e)⟩
                     clear hown8 hgrow8))
                all_goals
                  go_wp2_with fail
                  go_roundw
                  case rel => exact ⟨i + 1, k + (1 + (n - k)), _, some ⟨g8, 0, none⟩, cap8, rfl, by go_num, by omega, by omega, hid (by rw [hln.out]), hid hnew.out, HFIN⟩
                  case measure => simp [RowKit.intOf]; omega
    · have hltz : ¬ (i : Int) < (l.length : Int) := by omega
      have he : Hid (L = l.mergeSort fun x y => decide (x ≤ y)) := hid (by
        have := hso.out.eq
        rwa [List.take_of_length_le (by omega)] at this)
      go_wp2
      go_ret
      exact ⟨⟨_, rfl, by
        rw [← he.out]
        unfold S3.StrRow
        rw [hLn.out]
        exact hA.out.1⟩, hA.out.2⟩
end Go.Proofs.YteckefolakjafaaGreatDoor

set_option linter.unusedVariables false
namespace Go.Proofs.YteckefolakjafaaGreatDoor.S3
open Go Go.Proofs Go.RowKit Go.Lib

theorem pre_dg (s : Str) (x : UInt8) (h0 : 0 < (preS s).length) (hx : s[(preS s).length - 1]? = some x) : dg x = false := by
  have hs := pre_split s
  have h2 : (preS s)[(preS s).length - 1]? = some x := by
    have : s[(preS s).length - 1]? = (preS s ++ lastS s)[(preS s).length - 1]? := by rw [hs]
    rw [this, List.getElem?_append_left (by omega)] at hx
    exact hx
  rw [← List.getLast?_eq_getElem?] at h2
  obtain ⟨ys, h3⟩ := List.getLast?_eq_some_iff.1 h2
  exact pre_end s _ x h3
theorem last_dg (s : Str) (j : Nat) (x : UInt8) (h : (preS s).length ≤ j) (hx : s[j]? = some x) : dg x = true := by
  refine last_dgs s x ?_
  refine List.mem_of_getElem? (i := j - (preS s).length) ?_
  unfold lastS
  rw [List.getElem?_drop, show (preS s).length + (j - (preS s).length) = j by omega]
  exact hx
theorem lst_get (s : ByteArray) (j : Nat) (h : j < s.size) : (lst s)[j]? = some (s[j]'h) := by
  have : j < s.data.size := h
  show s.data.toList[j]? = _
  rw [Array.getElem?_toList, Array.getElem?_eq_getElem this]
  rfl

set_option maxHeartbeats 4000000 in
set_option maxRecDepth 100000 in
theorem tail_any (s : ByteArray) (hs : s.size ≤ 16) (w : World) : Calls Tryz.prog 38 #[.string s] w fun e w' => e = .returned (.tuple #[.string (ba (preS (lst s))), .string (ba (lastS (lst s)))]) ∧ ∃ q, w' = w.drewN q := by
  have hsp := congrArg List.length (pre_split (lst s))
  rw [List.length_append, ← Lib.size_eq] at hsp
  have hD := fun j h h1 => last_dg (lst s) j (s[j]'h) h1 (lst_get s j h)
  have hF := fun h h1 => pre_dg (lst s) (s[(preS (lst s)).length - 1]'h) h1 (lst_get s _ h)
  have e1 : s.extract 0 (preS (lst s)).length = ba (preS (lst s)) := by
    rw [← ba_lst (s.extract 0 (preS (lst s)).length), lst_extract]
    have := congrArg (List.take (preS (lst s)).length) (pre_split (lst s))
    rw [List.take_left] at this
    rw [← this, List.drop_zero]
    rfl
  have e2 : s.extract (preS (lst s)).length s.size = ba (lastS (lst s)) := by
    rw [← ba_lst (s.extract (preS (lst s)).length s.size), lst_extract, List.take_of_length_le (by rw [← Lib.size_eq]; exact Nat.le_refl _)]
    rfl
  rw [← e1, ← e2]
  generalize (preS (lst s)).length = n at hsp hD hF e1 e2 ⊢
  have HD := hid hD
  have HF := hid hF
  have hns : n ≤ s.size := by omega
  clear hD hF e1 e2 hsp
  go_enter Tryz.func38, Tryz.ntmps38
  go_wp2
  go_loop [4] (fun i => ∃ k : Nat, n ≤ k ∧ k ≤ s.size ∧ i = .int .i64 (k : Int)) (fun i => (RowKit.intOf i).toNat)
  case atStart => exact ⟨s.size, hns, Nat.le_refl _, rfl⟩
  case round =>
    obtain ⟨k, hk1, hk2, rfl⟩ := hrel
    rcases Nat.eq_zero_or_pos k with rfl | hk0
    · obtain rfl : n = 0 := by omega
      go_wp2
      go_quiet (fail)
      go_wp2
      go_ret2
      exact ⟨by simp, _, rfl⟩
    · obtain ⟨m, rfl⟩ : ∃ m, k = m + 1 := ⟨k - 1, by omega⟩
      have hm : m < s.size := by omega
      have cD := digit_any (s[m]'hm)
      have hz : (0 : Int) < (m : Int) + 1 := by omega
      have hw : IntKind.i64.wrap ((m : Int) + 1 - 1) = (m : Int) := by rw [IntWalk.i64_in _ (by omega)]; omega
      have hw2 : ((m : Int) + 1 - 1) = (m : Int) := by omega
      by_cases hnm : n ≤ m
      · rw [HD.out m hm hnm] at cD
        go_wp2_with fail
        refine (cD _).mono ?_
        rintro e w1 ⟨rfl, rfl⟩
        go_wp2
        go_roundw
        case rel => exact ⟨m, hnm, by omega, rfl⟩
        case measure => simp [RowKit.intOf]
      · obtain rfl : n = m + 1 := by omega
        have hf : dg (s[m]'hm) = false := HF.out (show m + 1 - 1 < s.size from hm) (by omega)
        rw [hf] at cD
        have h1 : (m : Int) + 1 ≤ (s.size : Int) := by omega
        go_wp2_with fail
        refine (cD _).mono ?_
        rintro e w1 ⟨rfl, rfl⟩
        go_wp2
        go_quiet (fail)
        go_wp2
        go_ret2
        exact ⟨rfl, _, rfl⟩

theorem num_snoc (l : Str) (x : UInt8) : numN (l ++ [x]) = 10 * numN l + (x.toNat - 48) := by
  unfold numN
  rw [List.foldl_append]
  rfl
set_option maxHeartbeats 4000000 in
set_option maxRecDepth 100000 in
theorem number_any (s : ByteArray) (hs : s.size ≤ 16) (hd : Dgs (lst s)) (w : World) : Calls Tryz.prog 72 #[.string s] w fun e w' => e = .returned (.int .i64 (numN (lst s) : Int)) ∧ w = w' := by
  have hN : ∀ k (h : k < s.size), numN ((lst s).take (k + 1)) = 10 * numN ((lst s).take k) + ((s[k]'h).toNat - 48) ∧ 48 ≤ (s[k]'h).toNat ∧ (s[k]'h).toNat ≤ 57 := fun k h => by
    have hg := lst_get s k h
    have h1 := dg_val (hd _ (List.mem_of_getElem? hg))
    refine ⟨?_, h1⟩
    rw [← num_snoc, List.take_add_one, hg]
    rfl
  have hL : ∀ k, k ≤ s.size → numN ((lst s).take k) < 10000000000000001 := fun k h => by
    have h1 := numN_lt ((lst s).take k) (fun c hc => hd c (List.mem_of_mem_take hc))
    have h2 : 10 ^ ((lst s).take k).length ≤ 10 ^ 16 := Nat.pow_le_pow_right (by omega) (by simp; omega)
    have h3 : 10 ^ 16 = 10000000000000000 := by decide
    omega
  have hE : numN (lst s) = numN ((lst s).take s.size) := by rw [List.take_of_length_le (by rw [← Lib.size_eq]; exact Nat.le_refl _)]
  have HN := hid hN
  have HL := hid hL
  have HE := hid hE
  clear hN hL hE hd
  rw [HE.out]
  go_enter Tryz.func72, Tryz.ntmps72
  go_wp2
  go_loop [3, 4] (fun v i => ∃ k n : Nat, k ≤ s.size ∧ i = .int .i64 (k : Int) ∧ v = .int .i64 (n : Int) ∧ Hid (numN ((lst s).take k) = n)) (fun _ i => s.size - (RowKit.intOf i).toNat)
  case atStart => exact ⟨0, 0, Nat.zero_le _, rfl, rfl, hid rfl⟩
  case round =>
    obtain ⟨k, n, hk, rfl, rfl, hv⟩ := hrel
    by_cases hlt : k < s.size
    · obtain ⟨h1, h2, h3⟩ := HN.out k hlt
      have h4 := HL.out k hk
      rw [hv.out] at h1 h4
      have hz : (k : Int) < (s.size : Int) := by omega
      obtain ⟨x, hx⟩ : ∃ x, s[k]'hlt = x := ⟨_, rfl⟩
      rw [hx] at h1 h2 h3
      have q1 : IntKind.u8.wrap ((x.toNat : Int) - 48) = (x.toNat : Int) - 48 := by simp [IntKind.wrap, IntKind.bits, IntKind.signed]; omega
      have q2 : IntKind.i64.wrap ((x.toNat : Int) - 48) = (x.toNat : Int) - 48 := IntWalk.i64_in _ (by omega)
      have q3 : IntKind.i64.wrap (10 * (n : Int)) = 10 * (n : Int) := IntWalk.i64_in _ (by omega)
      have q4 : IntKind.i64.wrap (10 * (n : Int) + ((x.toNat : Int) - 48)) = 10 * (n : Int) + ((x.toNat : Int) - 48) := IntWalk.i64_in _ (by omega)
      have H1 := hid h1
      clear h1
      go_wp2
      go_roundw
      case rel => exact ⟨k + 1, 10 * n + (x.toNat - 48), by omega, by go_num, by congr 1; omega, H1⟩
      case measure => simp [RowKit.intOf]; omega
    · obtain rfl : k = s.size := by omega
      go_wp2
      go_ret
      exact ⟨by rw [hv.out]; rfl, rfl⟩
end Go.Proofs.YteckefolakjafaaGreatDoor.S3

