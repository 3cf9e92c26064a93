/-
  Whether a string is a code: the reference's Valid. Conditions: none. The first element of a string: the program's cutElement with the function value that tells .. Conditions: as stated.
-/
import Derived.Test.YtlgmanbilaminaaGreatDoorMN01
set_option linter.unusedVariables false
namespace Go.Proofs.YtlgmanbilaminaaGreatDoor.S3
open Go Go.Proofs Go.RowKit Go.Lib
set_option maxHeartbeats 4000000 in
set_option maxRecDepth 100000 in
theorem refValid_any (s : ByteArray) (w : World) : Calls Tryz.prog 44 #[.string s] w fun e w' => e = .returned (.bool (validC s.data.toList)) ∧ w = w' := by
  obtain ⟨ANS, hANS⟩ : ∃ ANS, validC s.data.toList = ANS := ⟨_, rfl⟩
  rw [hANS]
  by_cases h0 : 0 < s.size
  · have hz1 : ¬ (s.size : Int) < 1 := by omega
    have hz1d : decide ((s.size : Int) < 1) = false := decide_eq_false hz1
    by_cases h16 : 16 < s.size
    · have hA : ANS = false := by rw [← hANS]; exact valid_big h16
      have hz : (16 : Int) < (s.size : Int) := by omega
      have hzd : decide ((16 : Int) < (s.size : Int)) = true := decide_eq_true hz
      have HA := hid hA
      clear hANS hA
      go_enter Tryz.func44, Tryz.ntmps44
      go_wp2
      go_ret
      rw [HA.out]
      exact ⟨rfl, rfl⟩
    · have hz : ¬ (16 : Int) < (s.size : Int) := by omega
      have hzd : decide ((16 : Int) < (s.size : Int)) = false := decide_eq_false hz
      obtain ⟨x0, hx0⟩ : ∃ x, s[0]'h0 = x := ⟨_, rfl⟩
      rcases sgn_cases x0 with ⟨g1, _, hs0⟩ | ⟨g1, _, g2, _, hs0⟩ | ⟨g1, _, g2, _, hs0⟩
      · have hA : ANS = false := by rw [← hANS]; exact valid_sign h0 (by rw [hx0]; exact hs0)
        have HA := hid hA
        clear hANS hA hs0
        go_enter Tryz.func44, Tryz.ntmps44
        go_wp2
        go_ret
        rw [HA.out]
        exact ⟨rfl, rfl⟩
      · have hA : ANS = false := by rw [← hANS]; exact valid_sign h0 (by rw [hx0]; exact hs0)
        have HA := hid hA
        clear hANS hA hs0
        go_enter Tryz.func44, Tryz.ntmps44
        go_wp2
        go_ret
        rw [HA.out]
        exact ⟨rfl, rfl⟩
      · have hA : s.data.toList.all okC = true → ANS = true := fun h => by rw [← hANS]; exact valid_yes h0 (by omega) (by rw [hx0]; exact hs0) h
        have hB : s.data.toList.all okC = false → ANS = false := fun h => by rw [← hANS]; exact validC_no h
        have HA := hid hA
        have HB := hid hB
        clear hANS hA hB hs0
        go_enter Tryz.func44, Tryz.ntmps44
        go_wp2
        clear hx0 g1 g2
        go_loop [3] (fun i => ∃ k : Nat, k ≤ s.size ∧ i = .int .i64 (k : Int) ∧ Hid ((s.data.toList.take k).all okC = true)) (fun i => s.size - (RowKit.intOf i).toNat)
        case atStart => exact ⟨0, Nat.zero_le _, rfl, hid rfl⟩
        case round =>
          obtain ⟨k, hk, rfl, hall⟩ := hrel
          by_cases hlt : k < s.size
          · have hltz : (k : Int) < (s.size : Int) := by omega
            have hsn := all_snoc s k hlt
            have hbad := all_bad s k hlt
            have cL := letter_any (s[k]'hlt)
            have cD := digit_any (s[k]'hlt)
            obtain ⟨x, hx⟩ : ∃ x, s[k]'hlt = x := ⟨_, rfl⟩
            rw [hx] at hsn hbad cL cD
            have HSN := hid hsn
            have HBAD := hid hbad
            clear hsn hbad
            have hcs : (Hid (okC x = true) ∧ (dg x = true ∨ (dg x = false ∧ ltr x = true) ∨ (dg x = false ∧ ltr x = false ∧ sgn x = true))) ∨ (Hid (okC x = false) ∧ dg x = false ∧ ltr x = false ∧ sgn x = false) := by
              unfold okC
              cases h1 : ltr x <;> cases h2 : dg x <;> cases h3 : sgn x
              · exact .inr ⟨hid rfl, rfl, rfl, rfl⟩
              · exact .inl ⟨hid rfl, .inr (.inr ⟨rfl, rfl, rfl⟩)⟩
              · exact .inl ⟨hid rfl, .inl rfl⟩
              · exact .inl ⟨hid rfl, .inl rfl⟩
              · exact .inl ⟨hid rfl, .inr (.inl ⟨rfl, rfl⟩)⟩
              · exact .inl ⟨hid rfl, .inr (.inl ⟨rfl, rfl⟩)⟩
              · exact .inl ⟨hid rfl, .inl rfl⟩
              · exact .inl ⟨hid rfl, .inl rfl⟩
            rcases hcs with ⟨ho, h1 | ⟨h1, h2⟩ | ⟨h1, h2, h3⟩⟩ | ⟨ho, h1, h2, h3⟩
            · rw [h1] at cD
              clear h1 cL
              go_wp2_with (go_at_call 56; refine (cD _).mono ?_; rintro e w' ⟨rfl, rfl⟩)
              go_round
              case rel => exact ⟨k + 1, hlt, by go_num, by rw [HSN.out, hall.out, ho.out]; exact hid rfl⟩
              case measure => simp [RowKit.intOf]; omega
            · rw [h1] at cD
              rw [h2] at cL
              clear h1 h2
              go_wp2_with (first | (go_at_call 56; refine (cD _).mono ?_; rintro e w' ⟨rfl, rfl⟩) | (go_at_call 75; refine (cL _).mono ?_; rintro e w' ⟨rfl, rfl⟩))
              go_round
              case rel => exact ⟨k + 1, hlt, by go_num, by rw [HSN.out, hall.out, ho.out]; exact hid rfl⟩
              case measure => simp [RowKit.intOf]; omega
            · rw [h1] at cD
              rw [h2] at cL
              clear h1 h2
              rcases sgn_cases x with ⟨g1, g1', _⟩ | ⟨g1, g1', g2, g2', _⟩ | ⟨_, _, _, _, h⟩
              · clear h3
                go_wp2_with (first | (go_at_call 56; refine (cD _).mono ?_; rintro e w' ⟨rfl, rfl⟩) | (go_at_call 75; refine (cL _).mono ?_; rintro e w' ⟨rfl, rfl⟩))
                go_round
                case rel => exact ⟨k + 1, hlt, by go_num, by rw [HSN.out, hall.out, ho.out]; exact hid rfl⟩
                case measure => simp [RowKit.intOf]; omega
              · clear h3
                go_wp2_with (first | (go_at_call 56; refine (cD _).mono ?_; rintro e w' ⟨rfl, rfl⟩) | (go_at_call 75; refine (cL _).mono ?_; rintro e w' ⟨rfl, rfl⟩))
                go_round
                case rel => exact ⟨k + 1, hlt, by go_num, by rw [HSN.out, hall.out, ho.out]; exact hid rfl⟩
                case measure => simp [RowKit.intOf]; omega
              · rw [h3] at h; simp at h
            · rw [h1] at cD
              rw [h2] at cL
              clear h1 h2
              rcases sgn_cases x with ⟨_, _, h⟩ | ⟨_, _, _, _, h⟩ | ⟨g1, g1', g2, g2', _⟩
              · rw [h3] at h; simp at h
              · rw [h3] at h; simp at h
              · clear h3
                go_wp2_with (first | (go_at_call 56; refine (cD _).mono ?_; rintro e w' ⟨rfl, rfl⟩) | (go_at_call 75; refine (cL _).mono ?_; rintro e w' ⟨rfl, rfl⟩))
                go_ret
                rw [HB.out (HBAD.out ho.out)]
                exact ⟨rfl, rfl⟩
          · have hltz : ¬ (k : Int) < (s.size : Int) := by omega
            have hfull : Hid (s.data.toList.all okC = true) := by
              have := hall.out
              rw [List.take_of_length_le (by rw [← Lib.size_eq]; omega)] at this
              exact hid this
            go_wp2
            go_ret
            rw [HA.out hfull.out]
            exact ⟨rfl, rfl⟩
  · have hz : (s.size : Int) < 1 := by omega
    have hzd : decide ((s.size : Int) < 1) = true := decide_eq_true hz
    have hz' : s.size = 0 := by omega
    have hsz := hz'
    rw [Lib.size_eq] at hz'
    have hnil : s.data.toList = [] := List.eq_nil_of_length_eq_zero hz'
    have hA : ANS = false := by rw [← hANS, hnil]; rfl
    have HA := hid hA
    clear hz' hsz hnil hANS hA
    go_enter Tryz.func44, Tryz.ntmps44
    go_wp2
    go_ret
    rw [HA.out]
    exact ⟨rfl, rfl⟩
abbrev lst (s : ByteArray) : Str := s.data.toList
theorem lst_extract (s : ByteArray) (a b : Nat) : lst (s.extract a b) = ((lst s).take b).drop a := by
  simp [lst, ByteArray.data_extract, List.extract_eq_take_drop, List.drop_take]
theorem runN_step (d : Bool) : ∀ (r : Str) (j : Nat) (hj : j < r.length), j ≤ runN d r → dg r[j] = d → j + 1 ≤ runN d r
  | [], j, hj, _, _ => by simp at hj
  | c :: r, 0, _, _, h => by
    have h' : dg c = d := h
    unfold runN
    rw [if_pos h']
    omega
  | c :: r, j + 1, hj, hle, h => by
    unfold runN at hle ⊢
    split at hle
    · rename_i hc
      rw [if_pos hc]
      have := runN_step d r j (by simpa using hj) (by omega) h
      omega
    · omega
theorem runN_stop (d : Bool) : ∀ (r : Str) (j : Nat) (hj : j < r.length), j ≤ runN d r → dg r[j] ≠ d → runN d r = j
  | [], j, hj, _, _ => by simp at hj
  | c :: r, 0, _, _, h => by
    have h' : ¬ dg c = d := h
    unfold runN
    rw [if_neg h']
  | c :: r, j + 1, hj, hle, h => by
    unfold runN at hle ⊢
    split at hle
    · rename_i hc
      rw [if_pos hc]
      have := runN_stop d r j (by simpa using hj) (by omega) h
      omega
    · omega
theorem elemN_step (l : Str) (h0 : 0 < l.length) (k : Nat) (hk : k < l.length) (h : k ≤ elemN l) (e : dg l[k] = dg l[0]) : k + 1 ≤ elemN l := by
  cases l with
  | nil => simp at h0
  | cons c r =>
    cases k with
    | zero => exact elemN_pos _ (by simp)
    | succ j =>
      have := runN_step (dg c) r j (by simpa using hk) (by simpa [elemN] using h) e
      simp [elemN]
      omega
theorem elemN_stop (l : Str) (h0 : 0 < l.length) (k : Nat) (hk : k < l.length) (h : k ≤ elemN l) (e : dg l[k] ≠ dg l[0]) : elemN l = k := by
  cases l with
  | nil => simp at h0
  | cons c r =>
    cases k with
    | zero => exact absurd rfl e
    | succ j =>
      have := runN_stop (dg c) r j (by simpa using hk) (by simpa [elemN] using h) e
      simp [elemN]
      omega
set_option maxHeartbeats 1000000 in
theorem endOf_any (c : UInt8) (w : World) : Calls Tryz.prog 114 #[.int .u8 (c.toNat : Int)] w fun e w' => e = .returned (.func (.func 136) #[] #[.pointer (some ⟨w.heap.size, 0, none⟩)]) ∧ w' = w.alloc (.cells #[.bool (dg c)] 4) := by
  go_enter Tryz.func114, Tryz.ntmps114
  go_wp2_with (go_at_call 99; refine (isDigit_any c _).mono ?_; rintro e w' ⟨rfl, rfl⟩)
  go_ret
  exact ⟨rfl, rfl⟩
set_option maxHeartbeats 1000000 in
theorem ended_any (c : UInt8) (b : Nat) (d : Bool) (w : World) (h : w.cell? ⟨b, 0, none⟩ = some (.bool d)) : Calls Tryz.prog 136 #[.int .u8 (c.toNat : Int), .pointer (some ⟨b, 0, none⟩)] w fun e w' => e = .returned (.bool (dg c != d)) ∧ ∃ q, w' = w.drewN q := by
  go_enter Tryz.func136, Tryz.ntmps136
  go_wp2
  go_quiet ((go_at_call 99; with_reducible refine Calls.quiet_of_same ((isDigit_any c _).mono fun _ _ h => ⟨h.1, h.2.symm⟩)))
  go_wp2
  go_ret
  exact ⟨rfl, _, rfl⟩
theorem below_drewN {B : Nat} {a w : World} (h : Below B a w) : ∀ q, Below B a (w.drewN q)
  | 0 => h
  | q + 1 => (below_drewN h q).drew
def CutOut (s : ByteArray) (w : World) (e : Ending) (w' : World) : Prop :=
  (∃ X Y : ByteArray, e = .returned (.tuple #[.string X, .string Y]) ∧ lst X = (lst s).take (elemN (lst s)) ∧ lst Y = (lst s).drop (elemN (lst s))) ∧ Below w.heap.size w w'
set_option maxHeartbeats 4000000 in
set_option maxRecDepth 100000 in
theorem cutElement_any (s : ByteArray) (h0 : 0 < s.size) (hs : s.size ≤ 9223372036854775807) (w : World) : Calls Tryz.prog 78 #[.string s] w (CutOut s w) := by
  have hl0 : 0 < (lst s).length := by rw [← Lib.size_eq]; exact h0
  have cE := endOf_any (s[0]'h0)
  have hst := fun k hk h => elemN_step (lst s) hl0 k hk h
  have hsp := fun k hk h => elemN_stop (lst s) hl0 k hk h
  rw [show (lst s)[0] = s[0]'h0 from rfl] at hst hsp
  obtain ⟨x0, hx0⟩ : ∃ x, s[0]'h0 = x := ⟨_, rfl⟩
  rw [hx0] at cE
  rw [show dg (s[0]'h0) = dg x0 by rw [hx0]] at hst hsp
  obtain ⟨d, hd⟩ : ∃ d, dg x0 = d := ⟨_, rfl⟩
  rw [hd] at cE hst hsp
  have HST := hid hst
  have HSP := hid hsp
  clear hst hsp hd
  go_enter Tryz.func78, Tryz.ntmps78
  go_wp2_with fail
  refine (cE _).mono ?_
  rintro e w1 ⟨rfl, hw1⟩
  have hb1 : Below w.heap.size w w1 := by rw [hw1]; exact (Below.refl _ w).alloc (Nat.le_refl _) _
  have hc1 : w1.cell? ⟨w.heap.size, 0, none⟩ = some (.bool d) := by rw [hw1, Lib.cell_of_heap (heap_alloc_new w _)]; rfl
  have HB := hid hb1
  clear hw1 hb1 cE hx0
  go_wp2
  go_loopw [2, 3, 5, 11] (fun _ _ _ i wr => ∃ (k q : Nat), k ≤ s.size ∧ i = .int .i64 (k : Int) ∧ Hid (k ≤ elemN (lst s)) ∧ wr = w1.drewN q) (fun _ _ _ i _ => s.size - (RowKit.intOf i).toNat)
  case atStart => exact ⟨0, 0, Nat.zero_le _, rfl, hid (Nat.zero_le _), rfl⟩
  case round =>
    obtain ⟨k, q, hk, rfl, hle, rfl⟩ := hrel
    by_cases hlt : k < s.size
    · have hltz : (k : Int) < (s.size : Int) := by omega
      have hlt' : k < (lst s).length := by rw [← Lib.size_eq]; exact hlt
      have h1 := HST.out k hlt' hle.out
      have h2 := HSP.out k hlt' hle.out
      have e1 : (lst s)[k] = s[k]'hlt := rfl
      rw [e1] at h1 h2
      obtain ⟨x, hx⟩ : ∃ x, s[k]'hlt = x := ⟨_, rfl⟩
      rw [hx] at h1 h2
      have hcq : (w1.drewN q).cell? ⟨w.heap.size, 0, none⟩ = some (.bool d) := hc1
      have cN := ended_any x w.heap.size d (w1.drewN q) hcq
      have H1 := hid h1
      have H2 := hid h2
      clear h1 h2 e1
      cases hdx : (dg x != d) with
      | true =>
        have hN : Hid (elemN (lst s) = k) := hid (H2.out (by simpa using hdx))
        rw [hdx] at cN
        have CN := hid cN
        clear hdx cN H1 H2 hcq
        have hkz : (0 : Int) ≤ (k : Int) := by omega
        have hkz2 : (k : Int) ≤ (s.size : Int) := by omega
        go_wp2_with fail
        refine CN.out.mono ?_
        rintro e w2 ⟨rfl, q', rfl⟩
        go_wp2
        go_quiet (fail)
        go_wp2
        go_ret2
        unfold CutOut
        refine ⟨⟨_, _, rfl, ?_, ?_⟩, ?_⟩
        · rw [lst_extract, hN.out]; simp
        · rw [lst_extract, hN.out, List.take_of_length_le (by rw [← Lib.size_eq]; exact Nat.le_refl _)]
        · exact below_drewN (below_drewN HB.out _) _
      | false =>
        have hN : Hid (k + 1 ≤ elemN (lst s)) := hid (H1.out (by simpa using hdx))
        rw [hdx] at cN
        have CN := hid cN
        clear hdx cN H1 H2 hcq
        go_wp2_with fail
        refine CN.out.mono ?_
        rintro e w2 ⟨rfl, q', rfl⟩
        rw [World.drewN_drewN]
        go_wp2
        go_roundw
        case rel => exact ⟨k + 1, q + q', by omega, by go_num, hN, rfl⟩
        case measure => simp [RowKit.intOf]; omega
    · have hltz : ¬ (k : Int) < (s.size : Int) := by omega
      have hN : Hid (elemN (lst s) = (lst s).length) := hid (by
        have := elemN_le (lst s)
        have h2 := hle.out
        have e : s.size = (lst s).length := Lib.size_eq s
        omega)
      go_wp2
      go_ret2
      unfold CutOut
      refine ⟨⟨_, _, rfl, ?_, ?_⟩, below_drewN HB.out _⟩
      · rw [hN.out, List.take_of_length_le (Nat.le_refl _)]
      · rw [hN.out, List.drop_of_length_le (Nat.le_refl _)]
end Go.Proofs.YtlgmanbilaminaaGreatDoor.S3
