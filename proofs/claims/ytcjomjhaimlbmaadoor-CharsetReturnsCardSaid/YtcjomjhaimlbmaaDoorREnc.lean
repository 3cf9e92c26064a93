/-
  What the reference's Encode returns, for any string in any encoding. Condition: the string has at most 140737488351232 bytes.
-/
import Derived.Test.YtcjomjhaimlbmaaDoorEnc
set_option linter.unusedVariables false
namespace Go.Proofs.YtcjomjhaimlbmaaDoor
open Go Go.Proofs Go.RowKit Go.Lib

set_option maxHeartbeats 1000000 in
theorem refEncode_unknown (s : ByteArray) (k : Int) (h : k < 1 ∨ 3 < k) (w : World) : Calls Tryd.prog 13 #[.string s, .int .i64 k] w (Enc3 w [] 6) := by
  by_cases h1 : k < 1
  · go_enter Tryd.func13, Tryd.ntmps13
    go_wp2
    go_ret2
    exact Enc3.none_ (Below.refl _ _)
  · have h3 : 3 < k := by omega
    go_enter Tryd.func13, Tryd.ntmps13
    go_wp2
    go_ret2
    exact Enc3.none_ (Below.refl _ _)
theorem row_cap {w : World} {B : Nat} {e : TypeId} {z : Nat} {v : Value} {n : Nat} {xs : List Value} (h : w.ownsRow B e z v n xs) : ∀ A m c, v = .slice A m c → n ≤ c ∧ c ≤ 9223372036854775807 := by
  intro A m c hv
  rcases h.2 with ⟨hv', h0⟩ | ⟨g, cap, cur, hv', _, _, h1, h2, _⟩
  · rw [hv] at hv'; injection hv' with _ h1 h2; omega
  · rw [hv] at hv'; injection hv' with _ _ h3; unfold maxLen at h2; omega
theorem big_of (g : Nat) (l : List UInt8) (k : Nat) (h : k < (runesL l).length) (hr : g < (runesL l)[k]) : bigB g l = true := by
  unfold bigB
  rw [List.any_eq_true]
  exact ⟨_, List.getElem_mem h, by simpa using hr⟩
theorem encB_at (l : List UInt8) (k : Nat) (h : k < (runesL l).length) : (encB l).take (k + 1) = (encB l).take k ++ [((runesL l)[k]).toUInt8] := by
  have hl : k < (encB l).length := by unfold encB; simpa using h
  rw [List.take_succ_eq_append_getElem hl]
  simp [encB]
theorem big_none (g : Nat) (l : List UInt8) (h : ∀ r ∈ runesL l, r ≤ g) : bigB g l = false := by
  unfold bigB
  rw [List.any_eq_false]
  intro r hr
  have := h r hr
  simp
  omega

set_option maxHeartbeats 2000000 in
set_option maxRecDepth 100000 in
theorem refEncode_1 (s : ByteArray) (hs : s.size ≤ 140737488351232) (w : World) :
    Calls Tryd.prog 13 #[.string s, .int .i64 1] w (Enc3 w (resE 1 s.data.toList) (errE 1 s.data.toList)) := by
  have cV := proper_any s w
  have hsl : s.data.toList.length = s.size := (Lib.size_eq s).symm
  obtain ⟨P, hP⟩ : ∃ P, properB s.data.toList = P := ⟨_, rfl⟩
  have hE : errE 1 s.data.toList = (if P = true then (if bigB 127 s.data.toList = true then 5 else if 65536 < (bytesE 1 s.data.toList).length then 2 else 0) else 4) := by
    unfold errE
    rw [if_pos (by omega), hP, show gOf 1 = 127 from rfl]
  rw [hP] at cV
  have HE := hid hE
  have CV := hid cV
  have HSL := hid hsl
  clear hP hE cV hsl
  cases P with
  | false =>
    have he : errE 1 s.data.toList = 4 := HE.out
    have hr : resE 1 s.data.toList = [] := by unfold resE; rw [if_neg (by rw [he]; decide)]
    rw [he, hr]
    clear he hr
    go_enter Tryd.func13, Tryd.ntmps13
    go_wp2_with (go_at_call 17; refine CV.out.mono ?_; rintro e w1 ⟨rfl, hb1⟩)
    go_ret2
    exact Enc3.none_ hb1
  | true =>
    go_enter Tryd.func13, Tryd.ntmps13
    go_wp2_with fail
    refine CV.out.mono ?_
    rintro e w3 ⟨rfl, hb3⟩
    have k1 := run_bytes_of_string (P := Tryd.prog) w3 9 22 5 s Tryd.underlying9 Tryd.underlying22 Tryd.underlying5
    have hgc := grownCap_ge w3 s.size 0 5
    have hgm := grownCap_le_maxLen w3 s.size 0 5 (by unfold maxLen; omega)
    unfold maxLen at hgm
    obtain ⟨G, hG⟩ : ∃ G, grownCap w3 s.size 0 5 = G := ⟨_, rfl⟩
    rw [hG] at k1 hgc hgm
    have hbi := bytes_laid w3 s G ((bytesRow s G).size, (bytesRow s G).size + 1)
    obtain ⟨w4, h4⟩ : ∃ w4, w3.drew.alloc (.cells (bytesRow s G) 5 ((bytesRow s G).size, (bytesRow s G).size + 1)) = w4 := ⟨_, rfl⟩
    have h4' : (w3.alloc (.cells (bytesRow s G) 5 ((bytesRow s G).size, (bytesRow s G).size + 1))).drew = w4 := h4
    rw [h4] at k1
    have hbi4 : BIn w4 w4.heap.size (some ⟨w3.heap.size, 0, none⟩) s.data.toList := by
      rw [← h4']
      have : (w3.alloc (.cells (bytesRow s G) 5 ((bytesRow s G).size, (bytesRow s G).size + 1))).drew.heap.size = w3.heap.size + 1 := by
        show (w3.alloc (.cells (bytesRow s G) 5 ((bytesRow s G).size, (bytesRow s G).size + 1))).heap.size = _
        simp
      rw [this]
      exact hbi
    have hb4 : Below w.heap.size w w4 := by rw [← h4']; exact (hb3.alloc hb3.size _).drew
    clear h4 h4' hbi hG
    clear hbi4
    obtain ⟨C, hC⟩ : ∃ C, (runeVals s.data.toList).toArray ++ Array.replicate (grownCap w4 (runesL s.data.toList).length 0 21 - (runesL s.data.toList).length) (.int .i32 0) = C := ⟨_, rfl⟩
    have k2 := run_runes (P := Tryd.prog) w4 9 48 21 s Tryd.underlying9 Tryd.underlying48 Tryd.underlying21
    have hcell : ∀ j u, (runeVals s.data.toList)[j]? = some u → ((w4.alloc (.cells C 21)).drew).cell? ⟨w4.heap.size, j, none⟩ = some u := fun j u h => by rw [← hC]; exact cell_runes w4 21 _ _ j u h
    rw [hC, show w4.drew.alloc (.cells C 21) = (w4.alloc (.cells C 21)).drew from rfl] at k2
    obtain ⟨w5, h5⟩ : ∃ w5, (w4.alloc (.cells C 21)).drew = w5 := ⟨_, rfl⟩
    have hl5 : w4.heap.size < w5.heap.size := by rw [← h5]; show w4.heap.size < (w4.alloc (.cells C 21)).heap.size; simp
    have hb5 : Below w.heap.size w w5 := by rw [← h5]; exact (hb4.alloc hb4.size _).drew
    rw [h5] at k2 hcell
    obtain ⟨N, hN⟩ : ∃ N, (runesL s.data.toList).length = N := ⟨_, rfl⟩
    obtain ⟨GR, hGR⟩ : ∃ G, grownCap w4 (runesL s.data.toList).length 0 21 = G := ⟨_, rfl⟩
    have hNc := grownCap_ge w4 (runesL s.data.toList).length 0 21
    have hNs := runesL_length s.data.toList
    rw [hGR, hN] at k2
    rw [hGR, hN] at hNc
    rw [hN, HSL.out] at hNs
    have HN := hid hN
    have HCELL := hid hcell
    obtain ⟨i5, hi5, hz5, hsi5, hby5⟩ := info_parts info5
    clear hC h5 hN hGR hcell hb4 hb3
    go_wp2
    go_loopw [6, 8] (fun v i wr => ∃ k : Nat, i = .int .i64 (k : Int) ∧ k ≤ N ∧ Below w5.heap.size w5 wr ∧ wr.ownsRow w5.heap.size 5 1 v k (byteCells ((encB s.data.toList).take k)) ∧ Hid (∀ (j : Nat) (h : j < (runesL s.data.toList).length), j < k → (runesL s.data.toList)[j] ≤ 127)) (fun _ i _ => N - (RowKit.intOf i).toNat)
    case atStart => exact ⟨0, rfl, Nat.zero_le _, Below.refl _ _, World.ownsRow_nil _ _ _ _, hid (fun j h h' => by omega)⟩
    case round =>
      obtain ⟨k, rfl, hk, hbw, hov, hall⟩ := hrel
      have hszw : w5.heap.size ≤ wr.heap.size := hbw.size
      by_cases hlt : k < N
      · have hkl : k < (runesL s.data.toList).length := by rw [HN.out]; exact hlt
        obtain ⟨R, hR⟩ : ∃ R, (runesL s.data.toList)[k] = R := ⟨_, rfl⟩
        have hv := runesL_valid s.data.toList R (by rw [← hR]; exact List.getElem_mem hkl)
        unfold ValidR at hv
        have hRm : R ≤ 1114111 := by omega
        have hc0 : wr.cell? ⟨w4.heap.size, k, none⟩ = some (.int .i32 (R : Int)) := (hbw.cell (p := ⟨w4.heap.size, k, none⟩) hl5).trans (HCELL.out k _ (by unfold runeVals; rw [List.getElem?_map, List.getElem?_eq_getElem hkl, hR]; rfl))
        have HR := hid hR
        have hkg : k < GR := by omega
        clear hR hv
        by_cases h255 : R > 255
        · have h255z : (255 : Int) < (R : Int) := by omega
          have he : errE 1 s.data.toList = 5 := by rw [HE.out, big_of 127 _ k hkl (by rw [HR.out]; omega)]; rfl
          have hr : resE 1 s.data.toList = [] := by unfold resE; rw [if_neg (by rw [he]; decide)]
          have HEe := hid he
          have HRr := hid hr
          clear he hr
          go_wp2
          go_ret2
          rw [HEe.out, HRr.out]
          exact Enc3.none_ (hb5.trans (hbw.mono hb5.size))
        · have h255z : ¬ (255 : Int) < (R : Int) := by omega
          by_cases h127 : R > 127
          · have h127z : (127 : Int) < (R : Int) := by omega
            have he : errE 1 s.data.toList = 5 := by rw [HE.out, big_of 127 _ k hkl (by rw [HR.out]; omega)]; rfl
            have hr : resE 1 s.data.toList = [] := by unfold resE; rw [if_neg (by rw [he]; decide)]
            have HEe := hid he
            have HRr := hid hr
            clear he hr
            go_wp2
            go_ret2
            rw [HEe.out, HRr.out]
            exact Enc3.none_ (hb5.trans (hbw.mono hb5.size))
          · have h127z : ¬ (127 : Int) < (R : Int) := by omega
            have hR255 : R ≤ 255 := by omega
            have HC3 : Hid (k + 1 ≤ maxLen) := by unfold maxLen; exact hid (by omega)
            have HC4 : Hid ((k + 1) * 1 ≤ 140737488355328) := hid (by omega)
            have HC5 : Hid (∀ o : Obj, w5.heap.size ≤ (wr.alloc o).heap.size) := hid (fun o => by simp; omega)
            go_wp2_with (at_builtin; refine wpList_append_own _ rfl _ _ 22 rfl w5.heap.size 5 i5 (.int .u8 0) 1 1 Tryd.underlying22 hi5 hz5 hsi5 hby5 rfl (by decide) _ k (byteCells ((encB s.data.toList).take k)) rfl (hov.alloc _) ⟨wr.heap.size, 0, none⟩ 1 1 [.int .u8 (R : Int)] rfl rfl (one_new _ _ _) (one_one _ _) HC3.out HC4.out (HC5.out _) ?_)
            intro v' w6 hown' hgrow _
            have hg' := grownBy_of_alloc hgrow
            have hbw2 := hbw.grown hg' hszw (fun j hj => (hov.lt j hj).1)
            go_wp2
            go_roundw
            case rel =>
              refine ⟨k + 1, by go_num, by omega, hbw2, ?_, hid ?_⟩
              · rw [encB_at _ _ hkl, byteCells_append, HR.out]
                have e : byteCells [R.toUInt8] = [.int .u8 (R : Int)] := by
                  simp [byteCells]
                  omega
                rw [e]
                exact hown'
              · intro j h hj
                rcases Nat.lt_or_ge j k with h' | h'
                · exact hall.out j h h'
                · obtain rfl : j = k := by omega
                  rw [HR.out]; omega
            case measure => simp [RowKit.intOf]; omega
      · have hkN : k = N := by omega
        have hB : bigB 127 s.data.toList = false := big_none _ _ (fun r hr => by
          obtain ⟨j, hj, rfl⟩ := List.mem_iff_getElem.1 hr
          exact hall.out j hj (by rw [hkN, ← HN.out]; exact hj))
        have hlenE : (encB s.data.toList).length = N := by unfold encB; rw [List.length_map]; exact HN.out
        have htk : (encB s.data.toList).take k = encB s.data.toList := List.take_of_length_le (by omega)
        rw [htk] at hov
        have hbl : bytesE 1 s.data.toList = encB s.data.toList := rfl
        obtain ⟨X, hX⟩ : ∃ X, encB s.data.toList = X := ⟨_, rfl⟩
        rw [hX] at hov hlenE hbl
        have hke : k = X.length := by omega
        rw [hke] at hov
        have hcap := row_cap hov
        obtain ⟨A, c, rfl, hbi⟩ := owned_string hov
        have hcap2 := hcap A _ c rfl
        have hNf : ¬ (k : Int) < (N : Int) := by omega
        have HBI := hid hbi
        have HBL := hid hbl
        have HBB := hid hB
        clear hov hbi htk hB hlenE hbl hkN hX hke hcap hlt
        by_cases hbig : 65536 < X.length
        · have hbz : (65536 : Int) < (X.length : Int) := by omega
          have he : errE 1 s.data.toList = 2 := by rw [HE.out, HBL.out, HBB.out]; simp [hbig]
          have hr : resE 1 s.data.toList = [] := by unfold resE; rw [if_neg (by rw [he]; decide)]
          have HEe := hid he
          have HRr := hid hr
          clear he hr
          go_wp2
          go_ret2
          rw [HEe.out, HRr.out]
          exact Enc3.none_ (hb5.trans (hbw.mono hb5.size))
        · have hbz : ¬ (65536 : Int) < (X.length : Int) := by omega
          have he : errE 1 s.data.toList = 0 := by rw [HE.out, HBL.out, HBB.out]; simp [hbig]
          have hr : resE 1 s.data.toList = X := by unfold resE; rw [if_pos he]; exact HBL.out
          have HEe := hid he
          have HRr := hid hr
          clear he hr
          go_wp2
          go_ret2
          rw [HEe.out, HRr.out]
          exact ⟨A, c, rfl, HBI.out, hcap2.1, hcap2.2, hb5.trans (hbw.mono hb5.size)⟩

set_option maxHeartbeats 2000000 in
set_option maxRecDepth 100000 in
theorem refEncode_2 (s : ByteArray) (hs : s.size ≤ 140737488351232) (w : World) :
    Calls Tryd.prog 13 #[.string s, .int .i64 2] w (Enc3 w (resE 2 s.data.toList) (errE 2 s.data.toList)) := by
  have cV := proper_any s w
  have hsl : s.data.toList.length = s.size := (Lib.size_eq s).symm
  obtain ⟨P, hP⟩ : ∃ P, properB s.data.toList = P := ⟨_, rfl⟩
  have hE : errE 2 s.data.toList = (if P = true then (if bigB 255 s.data.toList = true then 5 else if 65536 < (bytesE 2 s.data.toList).length then 2 else 0) else 4) := by
    unfold errE
    rw [if_pos (by omega), hP, show gOf 2 = 255 from rfl]
  rw [hP] at cV
  have HE := hid hE
  have CV := hid cV
  have HSL := hid hsl
  clear hP hE cV hsl
  cases P with
  | false =>
    have he : errE 2 s.data.toList = 4 := HE.out
    have hr : resE 2 s.data.toList = [] := by unfold resE; rw [if_neg (by rw [he]; decide)]
    rw [he, hr]
    clear he hr
    go_enter Tryd.func13, Tryd.ntmps13
    go_wp2_with (go_at_call 17; refine CV.out.mono ?_; rintro e w1 ⟨rfl, hb1⟩)
    go_ret2
    exact Enc3.none_ hb1
  | true =>
    go_enter Tryd.func13, Tryd.ntmps13
    go_wp2_with fail
    refine CV.out.mono ?_
    rintro e w3 ⟨rfl, hb3⟩
    have k1 := run_bytes_of_string (P := Tryd.prog) w3 9 22 5 s Tryd.underlying9 Tryd.underlying22 Tryd.underlying5
    have hgc := grownCap_ge w3 s.size 0 5
    have hgm := grownCap_le_maxLen w3 s.size 0 5 (by unfold maxLen; omega)
    unfold maxLen at hgm
    obtain ⟨G, hG⟩ : ∃ G, grownCap w3 s.size 0 5 = G := ⟨_, rfl⟩
    rw [hG] at k1 hgc hgm
    have hbi := bytes_laid w3 s G ((bytesRow s G).size, (bytesRow s G).size + 1)
    obtain ⟨w4, h4⟩ : ∃ w4, w3.drew.alloc (.cells (bytesRow s G) 5 ((bytesRow s G).size, (bytesRow s G).size + 1)) = w4 := ⟨_, rfl⟩
    have h4' : (w3.alloc (.cells (bytesRow s G) 5 ((bytesRow s G).size, (bytesRow s G).size + 1))).drew = w4 := h4
    rw [h4] at k1
    have hbi4 : BIn w4 w4.heap.size (some ⟨w3.heap.size, 0, none⟩) s.data.toList := by
      rw [← h4']
      have : (w3.alloc (.cells (bytesRow s G) 5 ((bytesRow s G).size, (bytesRow s G).size + 1))).drew.heap.size = w3.heap.size + 1 := by
        show (w3.alloc (.cells (bytesRow s G) 5 ((bytesRow s G).size, (bytesRow s G).size + 1))).heap.size = _
        simp
      rw [this]
      exact hbi
    have hb4 : Below w.heap.size w w4 := by rw [← h4']; exact (hb3.alloc hb3.size _).drew
    clear h4 h4' hbi hG
    clear hbi4
    obtain ⟨C, hC⟩ : ∃ C, (runeVals s.data.toList).toArray ++ Array.replicate (grownCap w4 (runesL s.data.toList).length 0 21 - (runesL s.data.toList).length) (.int .i32 0) = C := ⟨_, rfl⟩
    have k2 := run_runes (P := Tryd.prog) w4 9 48 21 s Tryd.underlying9 Tryd.underlying48 Tryd.underlying21
    have hcell : ∀ j u, (runeVals s.data.toList)[j]? = some u → ((w4.alloc (.cells C 21)).drew).cell? ⟨w4.heap.size, j, none⟩ = some u := fun j u h => by rw [← hC]; exact cell_runes w4 21 _ _ j u h
    rw [hC, show w4.drew.alloc (.cells C 21) = (w4.alloc (.cells C 21)).drew from rfl] at k2
    obtain ⟨w5, h5⟩ : ∃ w5, (w4.alloc (.cells C 21)).drew = w5 := ⟨_, rfl⟩
    have hl5 : w4.heap.size < w5.heap.size := by rw [← h5]; show w4.heap.size < (w4.alloc (.cells C 21)).heap.size; simp
    have hb5 : Below w.heap.size w w5 := by rw [← h5]; exact (hb4.alloc hb4.size _).drew
    rw [h5] at k2 hcell
    obtain ⟨N, hN⟩ : ∃ N, (runesL s.data.toList).length = N := ⟨_, rfl⟩
    obtain ⟨GR, hGR⟩ : ∃ G, grownCap w4 (runesL s.data.toList).length 0 21 = G := ⟨_, rfl⟩
    have hNc := grownCap_ge w4 (runesL s.data.toList).length 0 21
    have hNs := runesL_length s.data.toList
    rw [hGR, hN] at k2
    rw [hGR, hN] at hNc
    rw [hN, HSL.out] at hNs
    have HN := hid hN
    have HCELL := hid hcell
    obtain ⟨i5, hi5, hz5, hsi5, hby5⟩ := info_parts info5
    clear hC h5 hN hGR hcell hb4 hb3
    go_wp2
    go_loopw [6, 8] (fun v i wr => ∃ k : Nat, i = .int .i64 (k : Int) ∧ k ≤ N ∧ Below w5.heap.size w5 wr ∧ wr.ownsRow w5.heap.size 5 1 v k (byteCells ((encB s.data.toList).take k)) ∧ Hid (∀ (j : Nat) (h : j < (runesL s.data.toList).length), j < k → (runesL s.data.toList)[j] ≤ 255)) (fun _ i _ => N - (RowKit.intOf i).toNat)
    case atStart => exact ⟨0, rfl, Nat.zero_le _, Below.refl _ _, World.ownsRow_nil _ _ _ _, hid (fun j h h' => by omega)⟩
    case round =>
      obtain ⟨k, rfl, hk, hbw, hov, hall⟩ := hrel
      have hszw : w5.heap.size ≤ wr.heap.size := hbw.size
      by_cases hlt : k < N
      · have hkl : k < (runesL s.data.toList).length := by rw [HN.out]; exact hlt
        obtain ⟨R, hR⟩ : ∃ R, (runesL s.data.toList)[k] = R := ⟨_, rfl⟩
        have hv := runesL_valid s.data.toList R (by rw [← hR]; exact List.getElem_mem hkl)
        unfold ValidR at hv
        have hRm : R ≤ 1114111 := by omega
        have hc0 : wr.cell? ⟨w4.heap.size, k, none⟩ = some (.int .i32 (R : Int)) := (hbw.cell (p := ⟨w4.heap.size, k, none⟩) hl5).trans (HCELL.out k _ (by unfold runeVals; rw [List.getElem?_map, List.getElem?_eq_getElem hkl, hR]; rfl))
        have HR := hid hR
        have hkg : k < GR := by omega
        clear hR hv
        by_cases h255 : R > 255
        · have h255z : (255 : Int) < (R : Int) := by omega
          have he : errE 2 s.data.toList = 5 := by rw [HE.out, big_of 255 _ k hkl (by rw [HR.out]; omega)]; rfl
          have hr : resE 2 s.data.toList = [] := by unfold resE; rw [if_neg (by rw [he]; decide)]
          have HEe := hid he
          have HRr := hid hr
          clear he hr
          go_wp2
          go_ret2
          rw [HEe.out, HRr.out]
          exact Enc3.none_ (hb5.trans (hbw.mono hb5.size))
        · have h255z : ¬ (255 : Int) < (R : Int) := by omega
          have hR255 : R ≤ 255 := by omega
          have HC3 : Hid (k + 1 ≤ maxLen) := by unfold maxLen; exact hid (by omega)
          have HC4 : Hid ((k + 1) * 1 ≤ 140737488355328) := hid (by omega)
          have HC5 : Hid (∀ o : Obj, w5.heap.size ≤ (wr.alloc o).heap.size) := hid (fun o => by simp; omega)
          go_wp2_with (at_builtin; refine wpList_append_own _ rfl _ _ 22 rfl w5.heap.size 5 i5 (.int .u8 0) 1 1 Tryd.underlying22 hi5 hz5 hsi5 hby5 rfl (by decide) _ k (byteCells ((encB s.data.toList).take k)) rfl (hov.alloc _) ⟨wr.heap.size, 0, none⟩ 1 1 [.int .u8 (R : Int)] rfl rfl (one_new _ _ _) (one_one _ _) HC3.out HC4.out (HC5.out _) ?_)
          intro v' w6 hown' hgrow _
          have hg' := grownBy_of_alloc hgrow
          have hbw2 := hbw.grown hg' hszw (fun j hj => (hov.lt j hj).1)
          go_wp2
          go_roundw
          case rel =>
            refine ⟨k + 1, by go_num, by omega, hbw2, ?_, hid ?_⟩
            · rw [encB_at _ _ hkl, byteCells_append, HR.out]
              have e : byteCells [R.toUInt8] = [.int .u8 (R : Int)] := by
                simp [byteCells]
                omega
              rw [e]
              exact hown'
            · intro j h hj
              rcases Nat.lt_or_ge j k with h' | h'
              · exact hall.out j h h'
              · obtain rfl : j = k := by omega
                rw [HR.out]; omega
          case measure => simp [RowKit.intOf]; omega
      · have hkN : k = N := by omega
        have hB : bigB 255 s.data.toList = false := big_none _ _ (fun r hr => by
          obtain ⟨j, hj, rfl⟩ := List.mem_iff_getElem.1 hr
          exact hall.out j hj (by rw [hkN, ← HN.out]; exact hj))
        have hlenE : (encB s.data.toList).length = N := by unfold encB; rw [List.length_map]; exact HN.out
        have htk : (encB s.data.toList).take k = encB s.data.toList := List.take_of_length_le (by omega)
        rw [htk] at hov
        have hbl : bytesE 2 s.data.toList = encB s.data.toList := rfl
        obtain ⟨X, hX⟩ : ∃ X, encB s.data.toList = X := ⟨_, rfl⟩
        rw [hX] at hov hlenE hbl
        have hke : k = X.length := by omega
        rw [hke] at hov
        have hcap := row_cap hov
        obtain ⟨A, c, rfl, hbi⟩ := owned_string hov
        have hcap2 := hcap A _ c rfl
        have hNf : ¬ (k : Int) < (N : Int) := by omega
        have HBI := hid hbi
        have HBL := hid hbl
        have HBB := hid hB
        clear hov hbi htk hB hlenE hbl hkN hX hke hcap hlt
        by_cases hbig : 65536 < X.length
        · have hbz : (65536 : Int) < (X.length : Int) := by omega
          have he : errE 2 s.data.toList = 2 := by rw [HE.out, HBL.out, HBB.out]; simp [hbig]
          have hr : resE 2 s.data.toList = [] := by unfold resE; rw [if_neg (by rw [he]; decide)]
          have HEe := hid he
          have HRr := hid hr
          clear he hr
          go_wp2
          go_ret2
          rw [HEe.out, HRr.out]
          exact Enc3.none_ (hb5.trans (hbw.mono hb5.size))
        · have hbz : ¬ (65536 : Int) < (X.length : Int) := by omega
          have he : errE 2 s.data.toList = 0 := by rw [HE.out, HBL.out, HBB.out]; simp [hbig]
          have hr : resE 2 s.data.toList = X := by unfold resE; rw [if_pos he]; exact HBL.out
          have HEe := hid he
          have HRr := hid hr
          clear he hr
          go_wp2
          go_ret2
          rw [HEe.out, HRr.out]
          exact ⟨A, c, rfl, HBI.out, hcap2.1, hcap2.2, hb5.trans (hbw.mono hb5.size)⟩

set_option maxHeartbeats 2000000 in
set_option maxRecDepth 100000 in
theorem refEncode_3 (s : ByteArray) (hs : s.size ≤ 140737488351232) (w : World) :
    Calls Tryd.prog 13 #[.string s, .int .i64 3] w (Enc3 w (resE 3 s.data.toList) (errE 3 s.data.toList)) := by
  have cV := proper_any s w
  have hsl : s.data.toList.length = s.size := (Lib.size_eq s).symm
  obtain ⟨P, hP⟩ : ∃ P, properB s.data.toList = P := ⟨_, rfl⟩
  have hE : errE 3 s.data.toList = (if P = true then (if bigB 1114111 s.data.toList = true then 5 else if 65536 < (bytesE 3 s.data.toList).length then 2 else 0) else 4) := by
    unfold errE
    rw [if_pos (by omega), hP, show gOf 3 = 1114111 from rfl]
  rw [hP] at cV
  have HE := hid hE
  have CV := hid cV
  have HSL := hid hsl
  clear hP hE cV hsl
  cases P with
  | false =>
    have he : errE 3 s.data.toList = 4 := HE.out
    have hr : resE 3 s.data.toList = [] := by unfold resE; rw [if_neg (by rw [he]; decide)]
    rw [he, hr]
    clear he hr
    go_enter Tryd.func13, Tryd.ntmps13
    go_wp2_with (go_at_call 17; refine CV.out.mono ?_; rintro e w1 ⟨rfl, hb1⟩)
    go_ret2
    exact Enc3.none_ hb1
  | true =>
    go_enter Tryd.func13, Tryd.ntmps13
    go_wp2_with fail
    refine CV.out.mono ?_
    rintro e w3 ⟨rfl, hb3⟩
    have k1 := run_bytes_of_string (P := Tryd.prog) w3 9 22 5 s Tryd.underlying9 Tryd.underlying22 Tryd.underlying5
    have hgc := grownCap_ge w3 s.size 0 5
    have hgm := grownCap_le_maxLen w3 s.size 0 5 (by unfold maxLen; omega)
    unfold maxLen at hgm
    obtain ⟨G, hG⟩ : ∃ G, grownCap w3 s.size 0 5 = G := ⟨_, rfl⟩
    rw [hG] at k1 hgc hgm
    have hbi := bytes_laid w3 s G ((bytesRow s G).size, (bytesRow s G).size + 1)
    obtain ⟨w4, h4⟩ : ∃ w4, w3.drew.alloc (.cells (bytesRow s G) 5 ((bytesRow s G).size, (bytesRow s G).size + 1)) = w4 := ⟨_, rfl⟩
    have h4' : (w3.alloc (.cells (bytesRow s G) 5 ((bytesRow s G).size, (bytesRow s G).size + 1))).drew = w4 := h4
    rw [h4] at k1
    have hbi4 : BIn w4 w4.heap.size (some ⟨w3.heap.size, 0, none⟩) s.data.toList := by
      rw [← h4']
      have : (w3.alloc (.cells (bytesRow s G) 5 ((bytesRow s G).size, (bytesRow s G).size + 1))).drew.heap.size = w3.heap.size + 1 := by
        show (w3.alloc (.cells (bytesRow s G) 5 ((bytesRow s G).size, (bytesRow s G).size + 1))).heap.size = _
        simp
      rw [this]
      exact hbi
    have hb4 : Below w.heap.size w w4 := by rw [← h4']; exact (hb3.alloc hb3.size _).drew
    clear h4 h4' hbi hG
    have hB : bigB 1114111 s.data.toList = false := bigB_max _
    have hbl : (bytesE 3 s.data.toList).length = s.size := by show s.data.toList.length = _; exact HSL.out
    by_cases hbig : 65536 < s.size
    · have hbz : (65536 : Int) < (s.size : Int) := by omega
      have he : errE 3 s.data.toList = 2 := by rw [HE.out, hbl, hB]; simp [hbig]
      have hr : resE 3 s.data.toList = [] := by unfold resE; rw [if_neg (by rw [he]; decide)]
      have HEe := hid he
      have HRr := hid hr
      clear he hr hbl hbi4 hB
      go_wp2
      go_ret2
      rw [HEe.out, HRr.out]
      exact Enc3.none_ hb4
    · have hbz : ¬ (65536 : Int) < (s.size : Int) := by omega
      have he : errE 3 s.data.toList = 0 := by rw [HE.out, hbl, hB]; simp [hbig]
      have hr : resE 3 s.data.toList = s.data.toList := by unfold resE; rw [if_pos he]; rfl
      have HEe := hid he
      have HRr := hid hr
      clear he hr hbl hB
      have HBI := hid hbi4
      clear hbi4
      go_wp2
      go_ret2
      rw [HEe.out, HRr.out]
      exact ⟨some ⟨w3.heap.size, 0, none⟩, G, by rw [HSL.out]; rfl, HBI.out, by rw [HSL.out]; exact hgc, hgm, hb4⟩

end Go.Proofs.YtcjomjhaimlbmaaDoor
