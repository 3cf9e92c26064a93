/-
  The specification's Cut, Small and Decimal. Conditions: the strings fit into memory; the number is below 100.
-/
import Derived.Test.YtmmphjpakoimcaaDoorA7
set_option linter.unusedVariables false
namespace Go.Proofs.YtmmphjpakoimcaaDoor
open Go Go.Proofs Go.RowKit Go.Lib

theorem lst_get (s : ByteArray) (j : Nat) (h : j < s.size) : (lst s)[j]? = some (s[j]'h) := by
  have h3 : j < s.data.size := h
  show s.data.toList[j]? = _
  rw [Array.getElem?_toList, Array.getElem?_eq_getElem h3]
  rfl
theorem cut_at (c : UInt8) : ∀ (l : Str) (i : Nat), l[i]? = some c → (∀ j, j < i → l[j]? ≠ some c) → has c l = true ∧ (bef c l).length = i
  | [], i, h, _ => by simp at h
  | x :: l, 0, h, _ => by
    have : x = c := by simpa using h
    subst this
    simp [has, bef]
  | x :: l, i + 1, h, hn => by
    have h0 : x ≠ c := fun e => hn 0 (by omega) (by simp [e])
    obtain ⟨a, b⟩ := cut_at c l i (by simpa using h) (fun j hj => by have := hn (j + 1) (by omega); simpa using this)
    refine ⟨by simp [has, a], ?_⟩
    unfold bef
    rw [if_neg h0, List.length_cons, b]
theorem has_no (c : UInt8) : ∀ (l : Str), (∀ j, j < l.length → l[j]? ≠ some c) → has c l = false
  | [], _ => rfl
  | x :: l, h => by
    have h0 : x ≠ c := fun e => h 0 (by simp) (by simp [e])
    have := has_no c l (fun j hj => by have := h (j + 1) (by simp; omega); simpa using this)
    simp [has, h0, this]
theorem u8_ne {x c : UInt8} (h : x ≠ c) : ((x.toNat : Int) == (c.toNat : Int)) = false := by
  rw [beq_eq_false_iff_ne]
  intro e
  exact h (UInt8.toNat_inj.1 (by omega))

set_option maxHeartbeats 2000000 in
theorem rcut_any (s : ByteArray) (c : UInt8) (hs : s.size ≤ 4611686018427387904) (w : World) : Calls Tryd.prog 27 #[.string s, .int .u8 (c.toNat : Int)] w (CutOut c s w) := by
  unfold CutOut
  have hlen : (lst s).length = s.size := (Lib.size_eq s).symm
  obtain ⟨A, hA⟩ : ∃ A, ba (bef c (lst s)) = A := ⟨_, rfl⟩
  obtain ⟨B, hB⟩ : ∃ B, ba (aft c (lst s)) = B := ⟨_, rfl⟩
  obtain ⟨d, hd⟩ : ∃ d, has c (lst s) = d := ⟨_, rfl⟩
  rw [hA, hB, hd]
  have HA := hid hA
  have HB := hid hB
  have HD := hid hd
  clear hA hB hd
  go_enter Tryd.func27, Tryd.ntmps27
  go_wp2
  go_loopw [7] (fun iv wr => ∃ i : Nat, iv = .int .i64 (i : Int) ∧ i ≤ s.size ∧ Hid (∀ j, j < i → (lst s)[j]? ≠ some c) ∧ Hid (wr = w)) (fun iv _ => s.size - (RowKit.intOf iv).toNat)
  case atStart => exact ⟨0, rfl, by omega, hid (fun j hj => absurd hj (by omega)), by trivial⟩
  case round =>
    obtain ⟨i, rfl, hi, hn, hw⟩ := hrel
    obtain rfl : w = wr := hw.out.symm
    by_cases hlt : i < s.size
    · have hltz : (i : Int) < (s.size : Int) := by omega
      have hg := lst_get s i hlt
      obtain ⟨x, hx⟩ : ∃ x, s[i]'hlt = x := ⟨_, rfl⟩
      rw [hx] at hg
      by_cases he : x = c
      · subst he
        obtain ⟨a, b⟩ := cut_at x (lst s) i hg hn.out
        have v1 := bef_ext s x a
        have v2 := aft_ext s x a
        rw [b] at v1 v2
        obtain rfl : d = true := by rw [← HD.out, a]
        obtain rfl : s.extract 0 i = A := by rw [v1, HA.out]
        obtain rfl : s.extract (i + 1) s.size = B := by rw [v2, HB.out]
        have c2 : (i : Int) ≤ (s.size : Int) := by omega
        have c4 : ((i : Int) + 1 ≤ (s.size : Int)) := by omega
        have e1 : IntKind.i64.wrap ((i : Int) + 1) = (i : Int) + 1 := IntWalk.i64_in _ (by omega)
        clear v1 v2 a b hg hn hlen
        go_wp2
        go_quiet (fail)
        go_wp2
        go_ret3
        exact ⟨rfl, _, rfl⟩
      · have hb := u8_ne he
        have hn2 : Hid (∀ j, j < i + 1 → (lst s)[j]? ≠ some c) := hid (fun j hj => by
          rcases Nat.lt_or_ge j i with h | h
          · exact hn.out j h
          · obtain rfl : j = i := by omega
            rw [hg]
            intro e
            injection e with e
            exact he e)
        clear hg hn he
        go_wp2
        go_roundw
        case rel => exact ⟨i + 1, by go_num, by omega, hn2, by trivial⟩
        case measure => simp [RowKit.intOf]; omega
    · obtain rfl : i = s.size := by omega
      have hf := has_no c (lst s) (fun j hj => hn.out j (by rw [← hlen]; exact hj))
      obtain ⟨e1, e2⟩ := bef_miss c (lst s) hf
      obtain rfl : d = false := by rw [← HD.out, hf]
      obtain rfl : s = A := by rw [← HA.out, e1, ba_lst]
      obtain rfl : B = ⟨#[]⟩ := by rw [← HB.out, e2]; rfl
      clear hn hf e1 e2
      go_wp2
      go_ret3
      exact ⟨rfl, 0, rfl⟩

/-! ### Small -/
def dgB (c : UInt8) : Bool := decide (48 ≤ c.toNat ∧ c.toNat ≤ 57)
def numN (l : Str) : Nat := l.foldl (fun n c => 10 * n + (c.toNat - 48)) 0
theorem numN_snoc (l : Str) (c : UInt8) : numN (l ++ [c]) = 10 * numN l + (c.toNat - 48) := by simp [numN]
theorem small_all {l : Str} {a : UInt8} {r : Str} (hl : l = a :: r) (h2 : l.length ≤ 2) (h0 : a.toNat ≠ 48) (hd : ∀ c ∈ l, dgB c = true) : smallN l = numN l ∧ numN l < 100 := by
  subst hl
  have ha := of_decide_eq_true (hd a (by simp))
  match r, h2 with
  | [], _ =>
    have e : smallN [a] = a.toNat - 48 := if_pos ⟨by omega, ha.2⟩
    rw [e]
    simp [numN]
    omega
  | [b], _ =>
    have hb := of_decide_eq_true (hd b (by simp))
    have e : smallN [a, b] = 10 * (a.toNat - 48) + (b.toNat - 48) := if_pos ⟨⟨by omega, ha.2⟩, hb⟩
    rw [e]
    simp [numN]
    omega
  | b :: c :: t, h2 => simp at h2
theorem small_bad {l : Str} {c : UInt8} (hc : c ∈ l) (hd : dgB c = false) : smallN l = 0 := by
  have hd := of_decide_eq_false hd
  match l, hc with
  | [a], hc =>
    obtain rfl : c = a := by simpa using hc
    exact if_neg (by omega)
  | [a, b], hc =>
    rcases (show c = a ∨ c = b by simpa using hc) with rfl | rfl
    · exact if_neg (by omega)
    · exact if_neg (by omega)
  | a :: b :: d :: t, _ => rfl

set_option maxHeartbeats 4000000 in
theorem rsmall_any (s : ByteArray) (w : World) : Calls Tryd.prog 39 #[.string s] w fun e w' => e = .returned (.int .i64 ((smallN (lst s) : Nat) : Int)) ∧ w' = w := by
  obtain ⟨N, hN⟩ : ∃ N, smallN (lst s) = N := ⟨_, rfl⟩
  have hlen : (lst s).length = s.size := (Lib.size_eq s).symm
  rw [hN]
  by_cases h0 : 0 < s.size
  · have h0z : ¬ (s.size : Int) < 1 := by omega
    obtain ⟨r, hr⟩ := lst_cons h0
    by_cases h2 : s.size ≤ 2
    · have h2z : ¬ (2 : Int) < (s.size : Int) := by omega
      obtain ⟨a, ha⟩ : ∃ a, s[0]'h0 = a := ⟨_, rfl⟩
      rw [ha] at hr
      by_cases h3 : a.toNat = 48
      · have h3z : ((a.toNat : Int) == 48) = true := by simp; omega
        obtain rfl : N = 0 := by rw [← hN, hr, small_low (by omega)]
        clear hN hr h3
        go_enter Tryd.func39, Tryd.ntmps39
        go_wp2
        go_ret
        exact ⟨rfl, rfl⟩
      · have h3z : ((a.toNat : Int) == 48) = false := by simp; omega
        have HALL := hid (fun hd => small_all hr (by rw [hlen]; exact h2) h3 hd)
        have HBAD := hid (fun c (hc : c ∈ lst s) hd => small_bad hc hd)
        have HN := hid hN
        clear hN hr h3
        go_enter Tryd.func39, Tryd.ntmps39
        go_wp2
        go_loopw [3, 4] (fun nv iv wr => ∃ i n : Nat, iv = .int .i64 (i : Int) ∧ nv = .int .i64 (n : Int) ∧ i ≤ s.size ∧ Hid (∀ c ∈ (lst s).take i, dgB c = true) ∧ Hid (numN ((lst s).take i) = n) ∧ n < 100 ∧ (i ≤ 1 → n < 10) ∧ (i = 0 → n = 0) ∧ Hid (wr = w)) (fun _ iv _ => s.size - (RowKit.intOf iv).toNat)
        case atStart => exact ⟨0, 0, rfl, rfl, by omega, hid (fun c hc => by simp at hc), hid rfl, by omega, fun _ => by omega, fun _ => rfl, by trivial⟩
        case round =>
          obtain ⟨i, n, rfl, rfl, hi, hd, hv, hn1, hn2, hn3, hw⟩ := hrel
          obtain rfl : w = wr := hw.out.symm
          by_cases hlt : i < s.size
          · have hltz : (i : Int) < (s.size : Int) := by omega
            have hg := lst_get s i hlt
            obtain ⟨x, hx⟩ : ∃ x, s[i]'hlt = x := ⟨_, rfl⟩
            rw [hx] at hg
            have hm : x ∈ lst s := List.mem_of_getElem? hg
            by_cases h4 : x.toNat < 48
            · have h4z : (x.toNat : Int) < 48 := by omega
              obtain rfl : N = 0 := by rw [← HN.out, HBAD.out x hm (decide_eq_false (by omega))]
              clear hg hm
              go_wp2
              go_ret
              exact ⟨rfl, rfl⟩
            · have h4z : ¬ (x.toNat : Int) < 48 := by omega
              by_cases h5 : 57 < x.toNat
              · have h5z : (57 : Int) < (x.toNat : Int) := by omega
                obtain rfl : N = 0 := by rw [← HN.out, HBAD.out x hm (decide_eq_false (by omega))]
                clear hg hm
                go_wp2
                go_ret
                exact ⟨rfl, rfl⟩
              · have h5z : ¬ (57 : Int) < (x.toNat : Int) := by omega
                have htk : (lst s).take (i + 1) = (lst s).take i ++ [x] := by rw [List.take_add_one, hg]; rfl
                have h1 := numN_snoc ((lst s).take i) x
                rw [← htk, hv.out] at h1
                have hd2 : Hid (∀ c ∈ (lst s).take (i + 1), dgB c = true) := hid (fun c hc => by
                  rw [htk] at hc
                  rcases List.mem_append.1 hc with hc | hc
                  · exact hd.out c hc
                  · obtain rfl : c = x := by simpa using hc
                    exact decide_eq_true ⟨by omega, by omega⟩)
                have q1 : IntKind.u8.wrap ((x.toNat : Int) - 48) = (x.toNat : Int) - 48 := by simp [IntKind.wrap, IntKind.bits, IntKind.signed]; omega
                have q2 : IntKind.i64.wrap ((x.toNat : Int) - 48) = (x.toNat : Int) - 48 := IntWalk.i64_in _ (by omega)
                have q3 : IntKind.i64.wrap (10 * (n : Int)) = 10 * (n : Int) := IntWalk.i64_in _ (by omega)
                have q4 : IntKind.i64.wrap (10 * (n : Int) + ((x.toNat : Int) - 48)) = 10 * (n : Int) + ((x.toNat : Int) - 48) := IntWalk.i64_in _ (by omega)
                have H1 := hid h1
                have hi2 : i ≤ 1 := by omega
                have hn10 := hn2 hi2
                clear h1 hg hm htk hn2
                go_wp2
                go_roundw
                case rel => exact ⟨i + 1, 10 * n + (x.toNat - 48), by go_num, by congr 1; omega, by omega, hd2, H1, by omega, fun h => by have := hn3 (by omega); omega, fun h => by omega, by trivial⟩
                case measure => simp [RowKit.intOf]; omega
          · obtain rfl : i = s.size := by omega
            have hte : (lst s).take s.size = lst s := List.take_of_length_le (by rw [hlen]; exact Nat.le_refl _)
            have hh := hd.out
            have hvv := hv.out
            rw [hte] at hh hvv
            obtain rfl : N = n := by rw [← HN.out, (HALL.out hh).1, hvv]
            clear hte hh hvv
            go_wp2
            go_ret
            exact ⟨rfl, rfl⟩
    · have h2z : (2 : Int) < (s.size : Int) := by omega
      obtain rfl : N = 0 := by rw [← hN, small_long (by rw [hlen]; omega)]
      clear hN hr
      go_enter Tryd.func39, Tryd.ntmps39
      go_wp2
      go_ret
      exact ⟨rfl, rfl⟩
  · have h0z : (s.size : Int) < 1 := by omega
    obtain rfl : N = 0 := by rw [← hN, lst_nil h0]; rfl
    clear hN
    go_enter Tryd.func39, Tryd.ntmps39
    go_wp2
    go_ret
    exact ⟨rfl, rfl⟩
end Go.Proofs.YtmmphjpakoimcaaDoor
