/-
  The reference's tail and number: a code's last number. Conditions: as the lemmas state. A priority by the specification: Digits at one digit. Condition: none. .. Conditions: as stated.
-/
import Derived.Test.YtlgmanbilaminaaGreatDoorMN09
set_option linter.unusedVariables false
namespace Go.Proofs.YtlgmanbilaminaaGreatDoor.S3
open Go Go.Proofs Go.RowKit Go.Lib
theorem pre_dg (s : Str) (x : UInt8) (h0 : 0 < (preS s).length) (hx : s[(preS s).length - 1]? = some x) : dg x = false := by
  have hs := pre_split s
  have h2 : (preS s)[(preS s).length - 1]? = some x := by
    have : s[(preS s).length - 1]? = (preS s ++ lastS s)[(preS s).length - 1]? := by rw [hs]
    rw [this, List.getElem?_append_left (by omega)] at hx
    exact hx
  rw [← List.getLast?_eq_getElem?] at h2
  obtain ⟨ys, h3⟩ := List.getLast?_eq_some_iff.1 h2
  exact pre_end s _ x h3
theorem last_dg (s : Str) (j : Nat) (x : UInt8) (h : (preS s).length ≤ j) (hx : s[j]? = some x) : dg x = true := by
  refine last_dgs s x ?_
  refine List.mem_of_getElem? (i := j - (preS s).length) ?_
  unfold lastS
  rw [List.getElem?_drop, show (preS s).length + (j - (preS s).length) = j by omega]
  exact hx
theorem lst_get (s : ByteArray) (j : Nat) (h : j < s.size) : (lst s)[j]? = some (s[j]'h) := by
  have : j < s.data.size := h
  show s.data.toList[j]? = _
  rw [Array.getElem?_toList, Array.getElem?_eq_getElem this]
  rfl
set_option maxHeartbeats 4000000 in
set_option maxRecDepth 100000 in
theorem tail_any (s : ByteArray) (hs : s.size ≤ 16) (w : World) : Calls Tryz.prog 61 #[.string s] w fun e w' => e = .returned (.tuple #[.string (ba (preS (lst s))), .string (ba (lastS (lst s)))]) ∧ ∃ q, w' = w.drewN q := by
  have hsp := congrArg List.length (pre_split (lst s))
  rw [List.length_append, ← Lib.size_eq] at hsp
  have hD := fun j h h1 => last_dg (lst s) j (s[j]'h) h1 (lst_get s j h)
  have hF := fun h h1 => pre_dg (lst s) (s[(preS (lst s)).length - 1]'h) h1 (lst_get s _ h)
  have e1 : s.extract 0 (preS (lst s)).length = ba (preS (lst s)) := by
    rw [← ba_lst (s.extract 0 (preS (lst s)).length), lst_extract]
    have := congrArg (List.take (preS (lst s)).length) (pre_split (lst s))
    rw [List.take_left] at this
    rw [← this, List.drop_zero]
    rfl
  have e2 : s.extract (preS (lst s)).length s.size = ba (lastS (lst s)) := by
    rw [← ba_lst (s.extract (preS (lst s)).length s.size), lst_extract, List.take_of_length_le (by rw [← Lib.size_eq]; exact Nat.le_refl _)]
    rfl
  rw [← e1, ← e2]
  generalize (preS (lst s)).length = n at hsp hD hF e1 e2 ⊢
  have HD := hid hD
  have HF := hid hF
  have hns : n ≤ s.size := by omega
  clear hD hF e1 e2 hsp
  go_enter Tryz.func61, Tryz.ntmps61
  go_wp2
  go_loop [4] (fun i => ∃ k : Nat, n ≤ k ∧ k ≤ s.size ∧ i = .int .i64 (k : Int)) (fun i => (RowKit.intOf i).toNat)
  case atStart => exact ⟨s.size, hns, Nat.le_refl _, rfl⟩
  case round =>
    obtain ⟨k, hk1, hk2, rfl⟩ := hrel
    rcases Nat.eq_zero_or_pos k with rfl | hk0
    · obtain rfl : n = 0 := by omega
      go_wp2
      go_quiet (fail)
      go_wp2
      go_ret2
      exact ⟨by simp, _, rfl⟩
    · obtain ⟨m, rfl⟩ : ∃ m, k = m + 1 := ⟨k - 1, by omega⟩
      have hm : m < s.size := by omega
      have cD := digit_any (s[m]'hm)
      have hz : (0 : Int) < (m : Int) + 1 := by omega
      have hw : IntKind.i64.wrap ((m : Int) + 1 - 1) = (m : Int) := by rw [IntWalk.i64_in _ (by omega)]; omega
      have hw2 : ((m : Int) + 1 - 1) = (m : Int) := by omega
      by_cases hnm : n ≤ m
      · rw [HD.out m hm hnm] at cD
        go_wp2_with fail
        refine (cD _).mono ?_
        rintro e w1 ⟨rfl, rfl⟩
        go_wp2
        go_roundw
        case rel => exact ⟨m, hnm, by omega, rfl⟩
        case measure => simp [RowKit.intOf]
      · obtain rfl : n = m + 1 := by omega
        have hf : dg (s[m]'hm) = false := HF.out (show m + 1 - 1 < s.size from hm) (by omega)
        rw [hf] at cD
        have h1 : (m : Int) + 1 ≤ (s.size : Int) := by omega
        go_wp2_with fail
        refine (cD _).mono ?_
        rintro e w1 ⟨rfl, rfl⟩
        go_wp2
        go_quiet (fail)
        go_wp2
        go_ret2
        exact ⟨rfl, _, rfl⟩
theorem num_snoc (l : Str) (x : UInt8) : numN (l ++ [x]) = 10 * numN l + (x.toNat - 48) := by
  unfold numN
  rw [List.foldl_append]
  rfl
set_option maxHeartbeats 4000000 in
set_option maxRecDepth 100000 in
theorem number_any (s : ByteArray) (hs : s.size ≤ 16) (hd : Dgs (lst s)) (w : World) : Calls Tryz.prog 88 #[.string s] w fun e w' => e = .returned (.int .i64 (numN (lst s) : Int)) ∧ w = w' := by
  have hN : ∀ k (h : k < s.size), numN ((lst s).take (k + 1)) = 10 * numN ((lst s).take k) + ((s[k]'h).toNat - 48) ∧ 48 ≤ (s[k]'h).toNat ∧ (s[k]'h).toNat ≤ 57 := fun k h => by
    have hg := lst_get s k h
    have h1 := dg_val (hd _ (List.mem_of_getElem? hg))
    refine ⟨?_, h1⟩
    rw [← num_snoc, List.take_add_one, hg]
    rfl
  have hL : ∀ k, k ≤ s.size → numN ((lst s).take k) < 10000000000000001 := fun k h => by
    have h1 := numN_lt ((lst s).take k) (fun c hc => hd c (List.mem_of_mem_take hc))
    have h2 : 10 ^ ((lst s).take k).length ≤ 10 ^ 16 := Nat.pow_le_pow_right (by omega) (by simp; omega)
    have h3 : 10 ^ 16 = 10000000000000000 := by decide
    omega
  have hE : numN (lst s) = numN ((lst s).take s.size) := by rw [List.take_of_length_le (by rw [← Lib.size_eq]; exact Nat.le_refl _)]
  have HN := hid hN
  have HL := hid hL
  have HE := hid hE
  clear hN hL hE hd
  rw [HE.out]
  go_enter Tryz.func88, Tryz.ntmps88
  go_wp2
  go_loop [3, 4] (fun v i => ∃ k n : Nat, k ≤ s.size ∧ i = .int .i64 (k : Int) ∧ v = .int .i64 (n : Int) ∧ Hid (numN ((lst s).take k) = n)) (fun _ i => s.size - (RowKit.intOf i).toNat)
  case atStart => exact ⟨0, 0, Nat.zero_le _, rfl, rfl, hid rfl⟩
  case round =>
    obtain ⟨k, n, hk, rfl, rfl, hv⟩ := hrel
    by_cases hlt : k < s.size
    · obtain ⟨h1, h2, h3⟩ := HN.out k hlt
      have h4 := HL.out k hk
      rw [hv.out] at h1 h4
      have hz : (k : Int) < (s.size : Int) := by omega
      obtain ⟨x, hx⟩ : ∃ x, s[k]'hlt = x := ⟨_, rfl⟩
      rw [hx] at h1 h2 h3
      have q1 : IntKind.u8.wrap ((x.toNat : Int) - 48) = (x.toNat : Int) - 48 := by simp [IntKind.wrap, IntKind.bits, IntKind.signed]; omega
      have q2 : IntKind.i64.wrap ((x.toNat : Int) - 48) = (x.toNat : Int) - 48 := IntWalk.i64_in _ (by omega)
      have q3 : IntKind.i64.wrap (10 * (n : Int)) = 10 * (n : Int) := IntWalk.i64_in _ (by omega)
      have q4 : IntKind.i64.wrap (10 * (n : Int) + ((x.toNat : Int) - 48)) = 10 * (n : Int) + ((x.toNat : Int) - 48) := IntWalk.i64_in _ (by omega)
      have H1 := hid h1
      clear h1
      go_wp2
      go_roundw
      case rel => exact ⟨k + 1, 10 * n + (x.toNat - 48), by omega, by go_num, by congr 1; omega, H1⟩
      case measure => simp [RowKit.intOf]; omega
    · obtain rfl : k = s.size := by omega
      go_wp2
      go_ret
      exact ⟨by rw [hv.out]; rfl, rfl⟩
end Go.Proofs.YtlgmanbilaminaaGreatDoor.S3
namespace Go.Proofs.YtlgmanbilaminaaGreatDoor.S12
open Go Go.Proofs Go.RowKit Go.Lib Go.Proofs.YtlgmanbilaminaaGreatDoor
def digQ (s : Str) : Int × Bool := if s ≠ [] ∧ s.length ≤ 1 ∧ ¬ (1 < s.length ∧ s.head? = some 48) ∧ s.all S3.dg = true then (((S3.numN s : Nat) : Int), true) else (0, false)
theorem digQ_num (s : Str) : (numD 1 s = 0 → (digQ s).2 = false ∨ (digQ s).1 = 0) ∧ (numD 1 s ≠ 0 → digQ s = (((numD 1 s : Nat) : Int), true)) := by
  unfold digQ numD
  by_cases h : s ≠ [] ∧ s.length ≤ 1 ∧ ¬ (1 < s.length ∧ s.head? = some 48) ∧ s.all S3.dg = true
  · rw [if_pos h]
    obtain ⟨h1, h2, h3, h4⟩ := h
    by_cases h5 : s.head? = some 48
    · rw [if_neg (fun k => k.2.2.2 h5)]
      refine ⟨fun _ => .inr ?_, fun k => absurd rfl k⟩
      have hl : s.length = 1 := by
        have : s.length ≠ 0 := fun e => h1 (List.eq_nil_of_length_eq_zero e)
        have : ¬ 1 < s.length := fun e => h3 ⟨e, h5⟩
        omega
      obtain ⟨a, rfl⟩ := List.length_eq_one_iff.1 hl
      obtain rfl : a = 48 := by simpa using h5
      rfl
    · rw [if_pos ⟨h1, h2, h4, h5⟩]
      exact ⟨fun k => .inr (by simpa using k), fun _ => rfl⟩
  · rw [if_neg h, if_neg (fun k => h ⟨k.1, k.2.1, fun e => k.2.2.2 e.2, k.2.2.1⟩)]
    exact ⟨fun _ => .inl rfl, fun k => absurd rfl k⟩
set_option maxHeartbeats 4000000 in
set_option maxRecDepth 100000 in
theorem digits1_any (s : ByteArray) (w : World) : Calls Tryz.prog 93 #[.string s, .int .i64 1, .bool true] w fun e w' => e = .returned (.tuple #[.int .i64 (digQ (lst s)).1, .bool (digQ (lst s)).2]) ∧ w = w' := by
  obtain ⟨R, hR⟩ : ∃ R, digQ (lst s) = R := ⟨_, rfl⟩
  rw [hR]
  have hlen : (lst s).length = s.size := (Lib.size_eq s).symm
  have hno : ∀ h : ¬ (lst s ≠ [] ∧ (lst s).length ≤ 1 ∧ ¬ (1 < (lst s).length ∧ (lst s).head? = some 48) ∧ (lst s).all S3.dg = true), R = (0, false) := fun h => by rw [← hR]; exact if_neg h
  by_cases h0 : 0 < s.size
  · obtain ⟨r, hr⟩ := lst_cons h0
    obtain ⟨a, ha⟩ : ∃ a, s[0]'h0 = a := ⟨_, rfl⟩
    rw [ha] at hr
    have hs1 : ¬ (s.size : Int) < 1 := by omega
    by_cases h4 : s.size ≤ 1
    · have hs4 : ¬ (1 : Int) < (s.size : Int) := by omega
      by_cases hz : 1 < s.size ∧ a = 48
      · exact absurd hz.1 (by omega)
      · have HNO := hid hno
        have HLEN := hid hlen
        have HALL : Hid ((lst s).all S3.dg = true → R = (((S3.numN (lst s) : Nat) : Int), true)) := hid (fun k => by
          rw [← hR]
          refine if_pos ⟨by rw [hr]; simp, by rw [hlen]; exact h4, fun e => hz ⟨by rw [← hlen]; exact e.1, ?_⟩, k⟩
          have := e.2
          rw [hr] at this
          simpa using this)
        by_cases hq : 1 < s.size
        · exact absurd hq (by omega)
        · have hqz : ¬ (1 : Int) < (s.size : Int) := by omega
          clear hq hz hR hno hlen hr
          go_enter Tryz.func93, Tryz.ntmps93
          go_wp2
          go_loop [8] (fun iv => ∃ k : Nat, iv = .int .i64 (k : Int) ∧ k ≤ s.size ∧ Hid (∀ j (h : j < s.size), j < k → S3.dg (s[j]'h) = true)) (fun iv => s.size - (RowKit.intOf iv).toNat)
          case atStart => exact ⟨0, rfl, Nat.zero_le _, hid (fun j _ h => absurd h (Nat.not_lt_zero _))⟩
          case round =>
            obtain ⟨k, rfl, hk, hE⟩ := hrel
            by_cases hlt : k < s.size
            · have hltz : (k : Int) < (s.size : Int) := by omega
              have cD := S3.digit_any (s[k]'hlt)
              have hmem : s[k]'hlt ∈ lst s := List.mem_of_getElem? (S3.lst_get s k hlt)
              obtain ⟨x, hx⟩ : ∃ x, s[k]'hlt = x := ⟨_, rfl⟩
              rw [hx] at cD hmem
              have HXX := hid hx
              clear hx
              cases hv : S3.dg x with
              | false =>
                rw [hv] at cD
                obtain rfl := HNO.out (fun q => by have := List.all_eq_true.1 q.2.2.2 x hmem; rw [hv] at this; cases this)
                clear hv hmem
                have CD := hid cD
                clear cD
                go_wp2_with fail
                (try rw [HXX.out])
                refine (CD.out _).mono ?_
                rintro e w' ⟨rfl, rfl⟩
                go_wp2
                go_ret2
                exact ⟨rfl, rfl⟩
              | true =>
                rw [hv] at cD
                have hst : Hid (∀ j (h : j < s.size), j < k + 1 → S3.dg (s[j]'h) = true) := hid (fun j hj hji => by
                  by_cases e : j < k
                  · exact hE.out j hj e
                  · obtain rfl : j = k := by omega
                    rw [HXX.out]
                    exact hv)
                clear hv hmem
                have CD := hid cD
                clear cD
                go_wp2_with fail
                (try rw [HXX.out])
                refine (CD.out _).mono ?_
                rintro e w' ⟨rfl, rfl⟩
                go_wp2
                go_round
                case rel => exact ⟨k + 1, by go_num, by omega, hst⟩
                case measure => simp [RowKit.intOf]; omega
            · have hltz : ¬ (k : Int) < (s.size : Int) := by omega
              have hd : S3.Dgs (lst s) := fun c hc => by
                obtain ⟨j, hj, e⟩ := List.mem_iff_getElem.1 hc
                have hj' : j < s.size := by rw [← HLEN.out]; exact hj
                have h1 := S3.lst_get s j hj'
                rw [List.getElem?_eq_getElem hj, e] at h1
                injection h1 with h1
                rw [h1]
                exact hE.out j hj' (by omega)
              have cN := S3.number_any s (by omega) hd w
              obtain rfl := HALL.out (List.all_eq_true.2 hd)
              have CN := hid cN
              clear cN hd
              go_wp2_with fail
              refine CN.out.mono ?_
              rintro e w' ⟨rfl, rfl⟩
              go_wp2
              go_ret2
              exact ⟨rfl, rfl⟩
    · have hs4 : (1 : Int) < (s.size : Int) := by omega
      obtain rfl := hno (fun k => by have := k.2.1; rw [hlen] at this; omega)
      clear hno hlen hR hr
      go_enter Tryz.func93, Tryz.ntmps93
      go_wp2
      go_ret2
      exact ⟨rfl, rfl⟩
  · have hs1 : (s.size : Int) < 1 := by omega
    obtain rfl := hno (fun k => k.1 (lst_nil h0))
    clear hno hlen hR
    go_enter Tryz.func93, Tryz.ntmps93
    go_wp2
    go_ret2
    exact ⟨rfl, rfl⟩
end Go.Proofs.YtlgmanbilaminaaGreatDoor.S12
namespace Go.Proofs.YtlgmanbilaminaaGreatDoor.S3
open Go Go.Lib
def cntD : Str → Nat
  | [] => 0
  | [_] => 0
  | a :: b :: r => if a = 46 ∧ b = 46 then cntD r + 1 else cntD (b :: r)
theorem cntD_yes (r : Str) : cntD (46 :: 46 :: r) = cntD r + 1 := if_pos ⟨rfl, rfl⟩
theorem cntD_no {a b : UInt8} (h : ¬ (a = 46 ∧ b = 46)) (r : Str) : cntD (a :: b :: r) = cntD (b :: r) := if_neg h
theorem pre2 (a b : UInt8) (r : Str) : dots2.isPrefixOf (a :: b :: r) = decide (a = 46 ∧ b = 46) := by
  unfold dots2
  simp only [List.isPrefixOf, Bool.and_true]
  rw [Bool.eq_iff_iff]
  simp
  constructor
  · rintro ⟨h1, h2⟩; exact ⟨h1.symm, h2.symm⟩
  · rintro ⟨h1, h2⟩; exact ⟨h1.symm, h2.symm⟩
theorem index_cnt : ∀ (l : Str), 0 ≤ Lib.index l dots2 ↔ 0 < cntD l
  | [] => by simp [Lib.index, dots2, cntD]
  | [a] => by simp [Lib.index, dots2, cntD]
  | a :: b :: r => by
    have ih := index_cnt (b :: r)
    have hge := Lib.index_ge (b :: r) dots2
    unfold Lib.index
    rw [pre2]
    by_cases h : a = 46 ∧ b = 46
    · obtain ⟨rfl, rfl⟩ := h
      rw [cntD_yes]
      simp
    · rw [cntD_no h, decide_eq_false h, if_neg (by simp)]
      by_cases h1 : Lib.index (b :: r) dots2 = -1
      · rw [h1] at ih ⊢
        simpa using ih
      · rw [if_neg (by simpa using h1)]
        rw [← ih]
        omega
theorem contains_cnt (l : Str) : Lib.contains l dots2 = decide (0 < cntD l) := by
  unfold Lib.contains
  exact decide_eq_decide.2 (index_cnt l)
theorem occ2 (l : Str) (i : Nat) (a b : UInt8) (ha : l[i]? = some a) (hb : l[i + 1]? = some b) : Lib.occAt l dots2 i = decide (a = 46 ∧ b = 46) ∧ l.drop i = a :: b :: l.drop (i + 2) := by
  have hi : i < l.length := (List.getElem?_eq_some_iff.1 ha).1
  have hj : i + 1 < l.length := (List.getElem?_eq_some_iff.1 hb).1
  have e : l.drop i = a :: b :: l.drop (i + 2) := by
    rw [List.drop_eq_getElem_cons hi, List.drop_eq_getElem_cons hj]
    rw [List.getElem?_eq_getElem hi] at ha
    rw [List.getElem?_eq_getElem hj] at hb
    injection ha with ha
    injection hb with hb
    rw [ha, hb]
  refine ⟨?_, e⟩
  unfold Lib.occAt
  rw [e, pre2]
structure DotsAt (l : Str) (n : Int) (a : Int) : Prop where
  n : n = (cntD l : Int)
  no : cntD l = 0 → isP l = false
  yes : 0 < cntD l → isP l = true ∧ ∃ k : Nat, a = (k : Int) ∧ befP l = l.take k ∧ aftP l = l.drop (k + 2) ∧ k + 2 ≤ l.length ∧ Lib.contains (aftP l) dots2 = decide (1 < cntD l)
structure DotsIn (l : Str) (n : Nat) (a : Int) (i : Nat) : Prop where
  cnt : n + cntD (l.drop i) = cntD l
  zero : n = 0 → a = -1 ∧ Lib.NoOcc l dots2 i
  pos : 0 < n → ∃ k : Nat, a = (k : Int) ∧ Lib.index l dots2 = (k : Int) ∧ k + 2 ≤ l.length ∧ cntD l = cntD (l.drop (k + 2)) + 1
theorem DotsIn.start (l : Str) : DotsIn l 0 (-1) 0 := ⟨by simp, fun _ => ⟨rfl, Lib.NoOcc.zero _ _⟩, fun h => by omega⟩
theorem DotsIn.hit {l : Str} {n : Nat} {a : Int} {i : Nat} (h : DotsIn l n a i) (ha : l[i]? = some 46) (hb : l[i + 1]? = some 46) : DotsIn l (n + 1) (if n = 0 then (i : Int) else a) (i + 2) := by
  obtain ⟨ho, hd⟩ := occ2 l i 46 46 ha hb
  have hc := h.cnt
  rw [hd, cntD_yes] at hc
  have hj : i + 1 < l.length := (List.getElem?_eq_some_iff.1 hb).1
  refine ⟨by omega, fun h => by omega, fun _ => ?_⟩
  by_cases hn : n = 0
  · obtain ⟨_, hno⟩ := h.zero hn
    refine ⟨i, if_pos hn, Lib.index_hit hno (by omega) (by rw [ho]; simp), by omega, by omega⟩
  · obtain ⟨k, h1, h2, h3, h4⟩ := h.pos (by omega)
    exact ⟨k, by rw [if_neg hn]; exact h1, h2, h3, h4⟩
theorem DotsIn.miss {l : Str} {n : Nat} {a : Int} {i : Nat} (h : DotsIn l n a i) {x y : UInt8} (ha : l[i]? = some x) (hb : l[i + 1]? = some y) (hne : ¬ (x = 46 ∧ y = 46)) : DotsIn l n a (i + 1) := by
  obtain ⟨ho, hd⟩ := occ2 l i x y ha hb
  have hj : i + 1 < l.length := (List.getElem?_eq_some_iff.1 hb).1
  have e : l.drop (i + 1) = y :: l.drop (i + 2) := by
    rw [List.drop_eq_getElem_cons hj]
    rw [List.getElem?_eq_getElem hj] at hb
    injection hb with hb
    rw [hb]
  have hc := h.cnt
  rw [hd, cntD_no hne, ← e] at hc
  refine ⟨hc, fun hn => ?_, h.pos⟩
  obtain ⟨h1, h2⟩ := h.zero hn
  exact ⟨h1, h2.succ (by rw [ho]; simpa using hne)⟩
theorem DotsIn.done {l : Str} {n : Nat} {a : Int} {i : Nat} (h : DotsIn l n a i) (hi : l.length ≤ i + 1) : DotsAt l (n : Int) a := by
  have hz : cntD (l.drop i) = 0 := by
    have hl : (l.drop i).length ≤ 1 := by simp; omega
    match hm : l.drop i, hl with
    | [], _ => rfl
    | [x], _ => rfl
    | x :: y :: r, hl => simp at hl
  have hc := h.cnt
  rw [hz, Nat.add_zero] at hc
  refine ⟨by omega, fun h0 => ?_, fun h0 => ?_⟩
  · unfold isP Lib.cut
    rw [if_neg (by rw [index_cnt]; omega)]
  · obtain ⟨k, h1, h2, h3, h4⟩ := h.pos (by omega)
    have hcut : Lib.cut l dots2 = (l.take k, l.drop (k + 2), true) := by
      unfold Lib.cut
      rw [if_pos (by omega), h2]
      rfl
    refine ⟨by unfold isP; rw [hcut], k, h1, by unfold befP; rw [hcut], by unfold aftP; rw [hcut], h3, ?_⟩
    have : aftP l = l.drop (k + 2) := by unfold aftP; rw [hcut]
    rw [this, contains_cnt]
    exact decide_eq_decide.2 (by omega)
theorem dec_mono2 : ∀ (k m : Nat), m ≤ k → (decDigits m).length ≤ (decDigits k).length := fun k => by
  induction k using Nat.strongRecOn with
  | ind k ih =>
    intro m hm
    by_cases hk : k < 10
    · rw [dec_small hk, dec_small (show m < 10 by omega)]
      simp
    · by_cases hm' : m < 10
      · rw [dec_small hm']
        have := dec_pos k
        simpa using this
      · obtain ⟨a, b, ha, hb, rfl⟩ : ∃ a b, 1 ≤ a ∧ b < 10 ∧ k = 10 * a + b := ⟨k / 10, k % 10, by omega, by omega, by omega⟩
        obtain ⟨c, d, hc, hd, rfl⟩ : ∃ c d, 1 ≤ c ∧ d < 10 ∧ m = 10 * c + d := ⟨m / 10, m % 10, by omega, by omega, by omega⟩
        rw [dec_step a b ha hb, dec_step c d hc hd, List.length_append, List.length_append]
        have := ih a (by omega) c (by omega)
        simpa using this
theorem dg_ok2 {c : UInt8} (h : dg c = true) : okC c = true ∧ sgn c = false := by
  have hv := dg_val h
  refine ⟨by unfold okC; rw [h]; simp, ?_⟩
  unfold sgn
  simp
  omega
theorem nth_valid {a b : Str} {n j : Nat} (ha : validC a = true) (hb : validC b = true) (hn : rangeN a b = n) (hj : j < n) : validC (nthS a j) = true := by
  unfold rangeN at hn
  split at hn
  · rename_i hr
    obtain ⟨h1, h2, h3, h4⟩ := hr
    have hbl := validC_len hb
    have hsp := pre_split a
    have hne := wr_ne (numL a + j) (lastS a).length
    have hdg := wr_dgs (numL a + j) (lastS a).length
    have hlen : (nthS a j).length ≤ 16 := by
      rw [← h4, List.length_append, wr_len] at hbl
      unfold nthS
      rw [List.length_append, wr_len]
      have := dec_mono2 (numL b) (numL a + j) (by omega)
      omega
    have hall : (nthS a j).all okC = true := by
      rw [List.all_eq_true]
      intro c hc
      unfold nthS at hc
      rcases List.mem_append.1 hc with hc | hc
      · have hca : c ∈ a := by rw [← hsp]; exact List.mem_append_left _ hc
        cases a with
        | nil => cases hca
        | cons x r =>
          unfold validC at ha
          simp only [Bool.and_eq_true] at ha
          exact List.all_eq_true.1 ha.2 c hca
      · exact (dg_ok2 (hdg c hc)).1
    cases hp : preS a with
    | nil =>
      have e : nthS a j = wrS (numL a + j) (lastS a).length := by unfold nthS; rw [hp]; rfl
      rw [e] at hlen hall ⊢
      cases hw : wrS (numL a + j) (lastS a).length with
      | nil => exact absurd hw hne
      | cons c r =>
        rw [hw] at hlen hall hdg
        have hs := (dg_ok2 (hdg c (by simp))).2
        unfold validC
        simp only [hs, hall, Bool.not_false, Bool.and_true, decide_eq_true_eq]
        exact hlen
    | cons c r =>
      have e : nthS a j = c :: (r ++ wrS (numL a + j) (lastS a).length) := by unfold nthS; rw [hp]; rfl
      have hac : a = c :: (r ++ lastS a) := by
        conv => lhs; rw [← hsp]
        rw [hp]
        rfl
      have hs : sgn c = false := by
        rw [hac] at ha
        unfold validC at ha
        simp only [Bool.and_eq_true, Bool.not_eq_true'] at ha
        exact ha.1.2
      rw [e] at hlen hall ⊢
      unfold validC
      simp only [hs, hall, Bool.not_false, Bool.and_true, decide_eq_true_eq]
      exact hlen
  · omega
end Go.Proofs.YtlgmanbilaminaaGreatDoor.S3
namespace Go.Proofs.YtlgmanbilaminaaGreatDoor.S3
open Go Go.Proofs Go.RowKit Go.Lib
theorem splitL_first : ∀ (l : Str) (i : Nat), l[i]? = some 59 → (∀ j, j < i → l[j]? ≠ some 59) → splitL l = l.take i :: splitL (l.drop (i + 1))
  | [], i, h, _ => by simp at h
  | c :: s, 0, h, _ => by
    have : c = 59 := by simpa using h
    subst this
    simp [splitL]
  | c :: s, i + 1, h, hn => by
    have h0 : c ≠ 59 := fun e => hn 0 (by omega) (by simp [e])
    have ih := splitL_first s i (by simpa using h) (fun j hj => by have := hn (j + 1) (by omega); simpa using this)
    simp [splitL, if_neg h0, ih]
theorem splitL_no : ∀ (l : Str), (∀ j, j < l.length → l[j]? ≠ some 59) → splitL l = [l]
  | [], _ => rfl
  | c :: s, h => by
    have h0 : c ≠ 59 := fun e => h 0 (by simp) (by simp [e])
    have ih := splitL_no s (fun j hj => by have := h (j + 1) (by simp; omega); simpa using this)
    simp [splitL, if_neg h0, ih]
def SplitSt (l : Str) (done : List Str) (a i : Nat) : Prop :=
  (i ≤ l.length → a ≤ l.length ∧ splitL l = done ++ splitL (l.drop a) ∧ ∀ j, a ≤ j → j < i → l[j]? ≠ some 59) ∧ (i = l.length + 1 → done = splitL l)
theorem SplitSt.hit {l : Str} {done : List Str} {a i : Nat} (h : SplitSt l done a i) (hi : i < l.length) (ha : a ≤ i) (hx : l[i]? = some 59) : SplitSt l (done ++ [(l.take i).drop a]) (i + 1) (i + 1) := by
  obtain ⟨h1, h2, h3⟩ := h.1 (by omega)
  have e := splitL_first (l.drop a) (i - a) (by rw [List.getElem?_drop, show a + (i - a) = i by omega]; exact hx) (fun j hj => by rw [List.getElem?_drop]; exact h3 (a + j) (by omega) (by omega))
  rw [List.drop_drop, show a + (i - a + 1) = i + 1 by omega] at e
  refine ⟨fun _ => ⟨by omega, ?_, fun j h1 h2 => by omega⟩, fun h => by omega⟩
  rw [h2, e, List.drop_take]
  simp
theorem SplitSt.miss {l : Str} {done : List Str} {a i : Nat} (h : SplitSt l done a i) (hi : i < l.length) (hx : l[i]? ≠ some 59) : SplitSt l done a (i + 1) := by
  obtain ⟨h1, h2, h3⟩ := h.1 (by omega)
  refine ⟨fun _ => ⟨h1, h2, fun j hj1 hj2 => ?_⟩, fun h => by omega⟩
  rcases Nat.lt_or_ge j i with hji | hji
  · exact h3 j hj1 hji
  · obtain rfl : j = i := by omega
    exact hx
theorem SplitSt.last {l : Str} {done : List Str} {a : Nat} (h : SplitSt l done a l.length) : SplitSt l (done ++ [(l.take l.length).drop a]) (l.length + 1) (l.length + 1) := by
  obtain ⟨h1, h2, h3⟩ := h.1 (Nat.le_refl _)
  have e := splitL_no (l.drop a) (fun j hj => by
    rw [List.getElem?_drop]
    simp at hj
    exact h3 (a + j) (by omega) (by omega))
  refine ⟨fun h => by omega, fun _ => ?_⟩
  rw [h2, e, List.take_length]
set_option maxHeartbeats 4000000 in
set_option maxRecDepth 100000 in
theorem split_any (s : ByteArray) (hs : s.size ≤ 2097152) (w : World) : Calls Tryz.prog 148 #[.string s] w (RowOut (splitL (lst s)) w) := by
  obtain ⟨i9, hi9, hz9, hsi9, hby9⟩ := info_parts infoStr
  have hlen : (lst s).length = s.size := (Lib.size_eq s).symm
  go_enter Tryz.func148, Tryz.ntmps148
  go_wp2
  go_loopw [3, 4, 5] (fun v av iv wr => ∃ (done : List Str) (a i : Nat), av = .int .i64 (a : Int) ∧ iv = .int .i64 (i : Int) ∧ i ≤ s.size + 1 ∧ (i ≤ s.size → a ≤ i) ∧ StrRow wr w.heap.size v done ∧ done.length ≤ i ∧ Hid (SplitSt (lst s) done a i) ∧ Hid (Below w.heap.size w wr)) (fun _ _ iv _ => s.size + 1 - (RowKit.intOf iv).toNat)
  case atStart => exact ⟨[], 0, 0, rfl, rfl, by omega, fun _ => by omega, World.ownsRow_nil _ _ _ _, by simp, hid ⟨fun _ => ⟨by omega, by simp, fun j h1 h2 => by omega⟩, fun h => by omega⟩, hid (Below.refl _ _)⟩
  case round =>
    obtain ⟨done, a, i, rfl, rfl, hi, hai, hrow, hdl, hst, hB⟩ := hrel
    have HRow := hid hrow
    clear hrow
    by_cases hle : i ≤ s.size
    · have hlez : (i : Int) ≤ (s.size : Int) := by omega
      have ha := hai hle
      have haz : (a : Int) ≤ (i : Int) := by omega
      have e1 : IntKind.i64.wrap ((i : Int) + 1) = (i : Int) + 1 := IntWalk.i64_in _ (by omega)
      obtain ⟨X, hX⟩ : ∃ X, s.extract a i = X := ⟨_, rfl⟩
      have lX : lst X = ((lst s).take i).drop a := by rw [← hX, lst_extract]
      have HC3 : Hid (done.length + 1 ≤ maxLen) := by unfold maxLen; exact hid (by omega)
      have HC4 : Hid ((done.length + 1) * 16 ≤ 140737488355328) := hid (by omega)
      have HC5 : Hid (∀ o : Obj, w.heap.size ≤ (wr.alloc o).heap.size) := hid (fun o => by have := hB.out.size; simp; omega)
      have three : (i = s.size) ∨ (∃ h : i < s.size, s[i]'h = 59) ∨ (∃ h : i < s.size, s[i]'h ≠ 59) := by
        rcases Nat.lt_or_ge i s.size with h | h
        · by_cases hx : s[i]'h = 59
          · exact .inr (.inl ⟨h, hx⟩)
          · exact .inr (.inr ⟨h, hx⟩)
        · exact .inl (by omega)
      have fin : ∀ (hst2 : SplitSt (lst s) (done ++ [lst X]) (i + 1) (i + 1)), True := fun _ => trivial
      clear fin
      rcases three with he | ⟨hlt, hx⟩ | ⟨hlt, hx⟩
      · have hez : ((i : Int) == (s.size : Int)) = true := by simp [he]
        have hst2 := hid (show SplitSt (lst s) (done ++ [lst X]) (i + 1) (i + 1) by
          have h := hst.out
          rw [he, ← hlen] at h
          have h2 := h.last
          rw [lX, he, ← hlen]
          exact h2)
        clear lX he hst
        go_wp2_with (first | (at_builtin; refine wpList_append_own _ rfl _ _ 40 rfl w.heap.size 9 i9 (.string ⟨#[]⟩) 1 16 Tryz.underlying40 hi9 hz9 hsi9 hby9 rfl (by decide) _ done.length (strVals done) rfl (World.ownsRow.alloc HRow.out _) ⟨wr.heap.size, 0, none⟩ 1 1 [.string X] rfl rfl (by rw [← hX]; exact one_new _ _ _) (one_str _) HC3.out HC4.out (HC5.out _) ?_))
        intro v' w6 hown' hgrow _
        have hg' := grownBy_of_alloc hgrow
        have hb56 : Below w.heap.size wr w6 := (Below.refl _ wr).grown hg' hB.out.size (fun k hk => (World.ownsRow.lt HRow.out k hk).1)
        have HB6 := hid (hB.out.trans hb56)
        have HRow6 := hid hown'
        clear hown' hgrow hg' hb56
        go_wp2
        go_roundw
        case rel =>
          refine ⟨done ++ [lst X], i + 1, i + 1, by go_num, by go_num, by omega, fun _ => Nat.le_refl _, ?_, by simp; omega, hst2, HB6⟩
          unfold StrRow
          rw [strVals_app, List.length_append]
          have e : strVals [lst X] = [.string X] := by show [strV (lst X)] = _; rw [strV_lst]
          rw [e]
          exact HRow6.out
        case measure => simp [RowKit.intOf]; omega
      · have hez : ((i : Int) == (s.size : Int)) = false := by simp; omega
        have hxz : (((s[i]'hlt).toNat : Int) == 59) = true := by rw [hx]; rfl
        have hg : (lst s)[i]? = some 59 := by rw [lst_get s i hlt, hx]
        have hst2 := hid (show SplitSt (lst s) (done ++ [lst X]) (i + 1) (i + 1) by
          rw [lX]
          exact hst.out.hit (by rw [hlen]; exact hlt) ha hg)
        obtain ⟨x, hxe⟩ : ∃ x, s[i]'hlt = x := ⟨_, rfl⟩
        rw [hxe] at hxz
        clear lX hg hst hx
        go_wp2_with (first | (at_builtin; refine wpList_append_own _ rfl _ _ 40 rfl w.heap.size 9 i9 (.string ⟨#[]⟩) 1 16 Tryz.underlying40 hi9 hz9 hsi9 hby9 rfl (by decide) _ done.length (strVals done) rfl (World.ownsRow.alloc HRow.out _) ⟨wr.heap.size, 0, none⟩ 1 1 [.string X] rfl rfl (by rw [← hX]; exact one_new _ _ _) (one_str _) HC3.out HC4.out (HC5.out _) ?_))
        intro v' w6 hown' hgrow _
        have hg' := grownBy_of_alloc hgrow
        have hb56 : Below w.heap.size wr w6 := (Below.refl _ wr).grown hg' hB.out.size (fun k hk => (World.ownsRow.lt HRow.out k hk).1)
        have HB6 := hid (hB.out.trans hb56)
        have HRow6 := hid hown'
        clear hown' hgrow hg' hb56
        go_wp2
        go_roundw
        case rel =>
          refine ⟨done ++ [lst X], i + 1, i + 1, by go_num, by go_num, by omega, fun _ => Nat.le_refl _, ?_, by simp; omega, hst2, HB6⟩
          unfold StrRow
          rw [strVals_app, List.length_append]
          have e : strVals [lst X] = [.string X] := by show [strV (lst X)] = _; rw [strV_lst]
          rw [e]
          exact HRow6.out
        case measure => simp [RowKit.intOf]; omega
      · have hez : ((i : Int) == (s.size : Int)) = false := by simp; omega
        have hg : (lst s)[i]? ≠ some 59 := by
          rw [lst_get s i hlt]
          intro e
          injection e with e
          exact hx e
        have hxz : (((s[i]'hlt).toNat : Int) == 59) = false := by
          rw [beq_eq_false_iff_ne]
          intro e
          exact hx (UInt8.toNat_inj.1 (by have : (59 : UInt8).toNat = 59 := rfl; omega))
        have hst2 := hid (hst.out.miss (by rw [hlen]; exact hlt) hg)
        obtain ⟨x, hxe⟩ : ∃ x, s[i]'hlt = x := ⟨_, rfl⟩
        rw [hxe] at hxz
        clear lX hg hst hx hX
        go_wp2
        go_roundw
        case rel => exact ⟨done, a, i + 1, rfl, by go_num, by omega, fun _ => by omega, HRow.out, by omega, hst2, hB⟩
        case measure => simp [RowKit.intOf]; omega
    · have hlez : ¬ (i : Int) ≤ (s.size : Int) := by omega
      have hd : done = splitL (lst s) := hst.out.2 (by omega)
      subst hd
      go_wp2
      go_ret
      exact ⟨⟨_, rfl, HRow.out⟩, hB.out⟩
theorem u8_46 {x : UInt8} : (x = 46 ∧ ((x.toNat : Int) == 46) = true) ∨ (x ≠ 46 ∧ ((x.toNat : Int) == 46) = false) := by
  by_cases h : x = 46
  · exact .inl ⟨h, by rw [h]; rfl⟩
  · refine .inr ⟨h, ?_⟩
    rw [beq_eq_false_iff_ne]
    intro e
    exact h (UInt8.toNat_inj.1 (by have : (46 : UInt8).toNat = 46 := rfl; omega))
set_option maxHeartbeats 4000000 in
set_option maxRecDepth 100000 in
theorem dots_any (s : ByteArray) (hs : s.size ≤ 4611686018427387904) (w : World) :
    Calls Tryz.prog 149 #[.string s] w fun e w' => (∃ n a : Int, e = .returned (.tuple #[.int .i64 n, .int .i64 a]) ∧ DotsAt (lst s) n a) ∧ w' = w := by
  have hlen : (lst s).length = s.size := (Lib.size_eq s).symm
  go_enter Tryz.func149, Tryz.ntmps149
  go_wp2
  go_loopw [4, 5, 6] (fun nv av iv wr => ∃ (n : Nat) (a : Int) (i : Nat), nv = .int .i64 (n : Int) ∧ av = .int .i64 a ∧ iv = .int .i64 (i : Int) ∧ i ≤ s.size ∧ n ≤ i ∧ Hid (DotsIn (lst s) n a i) ∧ Hid (wr = w)) (fun _ _ iv _ => s.size - (RowKit.intOf iv).toNat)
  case atStart => exact ⟨0, -1, 0, rfl, rfl, rfl, by omega, by omega, hid (DotsIn.start _), by trivial⟩
  case round =>
    obtain ⟨n, a, i, rfl, rfl, rfl, hi, hni, hd, hw⟩ := hrel
    obtain rfl : w = wr := hw.out.symm
    have e1 : IntKind.i64.wrap ((i : Int) + 1) = (i : Int) + 1 := IntWalk.i64_in _ (by omega)
    by_cases hlt : i + 1 < s.size
    · have hltz : (i : Int) + 1 < (s.size : Int) := by omega
      have hi0 : i < s.size := by omega
      have g0 := lst_get s i hi0
      have g1 := lst_get s (i + 1) hlt
      obtain ⟨x, hx⟩ : ∃ x, s[i]'hi0 = x := ⟨_, rfl⟩
      obtain ⟨y, hy⟩ : ∃ y, s[i + 1]'hlt = y := ⟨_, rfl⟩
      rw [hx] at g0
      rw [hy] at g1
      have G0 := hid g0
      have G1 := hid g1
      clear g0 g1
      have e2 : IntKind.i64.wrap ((n : Int) + 1) = (n : Int) + 1 := IntWalk.i64_in _ (by omega)
      have t1 : ((i : Int) + 1).toNat = i + 1 := by omega
      rcases u8_46 (x := x) with ⟨hx46, hxz⟩ | ⟨hx46, hxz⟩
      · rcases u8_46 (x := y) with ⟨hy46, hyz⟩ | ⟨hy46, hyz⟩
        · have hnx := hid (hd.out.hit (by rw [G0.out, hx46]) (by rw [G1.out, hy46]))
          clear hx46 hy46
          by_cases hn0 : n = 0
          · subst hn0
            have hnx2 : Hid (DotsIn (lst s) 1 (i : Int) (i + 2)) := hid (by have := hnx.out; simpa using this)
            clear hnx
            go_wp2
            go_roundw
            case rel => exact ⟨1, (i : Int), i + 2, rfl, rfl, by congr 1, by omega, by omega, hnx2, by trivial⟩
            case measure => simp [RowKit.intOf]; omega
          · have hnb : ((n : Int) == 0) = false := by simpa using hn0
            have hnx2 : Hid (DotsIn (lst s) (n + 1) a (i + 2)) := hid (by have := hnx.out; rwa [if_neg hn0] at this)
            clear hnx hn0
            go_wp2
            go_roundw
            case rel => exact ⟨n + 1, a, i + 2, by go_num, rfl, by congr 1, by omega, by omega, hnx2, by trivial⟩
            case measure => simp [RowKit.intOf]; omega
        · have hnx := hid (hd.out.miss G0.out G1.out (fun h => hy46 h.2))
          clear hx46 hy46
          go_wp2
          go_roundw
          case rel => exact ⟨n, a, i + 1, rfl, rfl, by go_num, by omega, by omega, hnx, by trivial⟩
          case measure => simp [RowKit.intOf]; omega
      · have hnx := hid (hd.out.miss G0.out G1.out (fun h => hx46 h.1))
        clear hx46
        go_wp2
        go_roundw
        case rel => exact ⟨n, a, i + 1, rfl, rfl, by go_num, by omega, by omega, hnx, by trivial⟩
        case measure => simp [RowKit.intOf]; omega
    · have hltz : ¬ (i : Int) + 1 < (s.size : Int) := by omega
      have hfin := hid (hd.out.done (by rw [hlen]; omega))
      go_wp2
      go_ret2
      exact ⟨⟨_, _, rfl, hfin.out⟩, rfl⟩
def one48 (d : Nat) : UInt8 := UInt8.ofNat (48 + d)
def WideAt (n u : Nat) (s : Str) : Prop := (s = [] ∧ u = n) ∨ (s ≠ [] ∧ ((u = 0 ∧ s = decDigits n) ∨ (0 < u ∧ decDigits u ++ s = decDigits n)))
theorem WideAt.step {n u : Nat} {s : Str} (h : WideAt n u s) (hg : 0 < u ∨ s = []) : WideAt n (u / 10) (one48 (u % 10) :: s) := by
  have hd : u % 10 < 10 := Nat.mod_lt _ (by omega)
  refine .inr ⟨by simp, ?_⟩
  by_cases hm : u / 10 = 0
  · have hu : u < 10 := by omega
    have hmod : u % 10 = u := Nat.mod_eq_of_lt hu
    refine .inl ⟨hm, ?_⟩
    rw [hmod]
    rcases h with ⟨rfl, rfl⟩ | ⟨hs, ⟨h0, _⟩ | ⟨h0, h1⟩⟩
    · rw [dec_small hu]; rfl
    · rcases hg with hg | hg
      · omega
      · exact absurd hg hs
    · rw [← h1, dec_small hu]; rfl
  · have hu : u = 10 * (u / 10) + u % 10 := by omega
    have hst : decDigits u = decDigits (u / 10) ++ [one48 (u % 10)] := by
      have := dec_step (u / 10) (u % 10) (by omega) hd
      rw [← hu] at this
      exact this
    refine .inr ⟨by omega, ?_⟩
    rcases h with ⟨rfl, rfl⟩ | ⟨hs, ⟨h0, _⟩ | ⟨h0, h1⟩⟩
    · rw [hst]
    · omega
    · rw [← h1, hst]; simp
theorem WideAt.done {n u : Nat} {s : Str} (h : WideAt n u s) (hg : ¬ (0 < u ∨ s = [])) : s = decDigits n := by
  rcases h with ⟨rfl, rfl⟩ | ⟨hs, ⟨h0, h1⟩ | ⟨h0, _⟩⟩
  · exact absurd (.inr rfl) hg
  · exact h1
  · exact absurd (.inl h0) hg
theorem WideAt.short {n u : Nat} {s : Str} (h : WideAt n u s) : s.length ≤ (decDigits n).length := by
  rcases h with ⟨rfl, rfl⟩ | ⟨hs, ⟨h0, h1⟩ | ⟨h0, h1⟩⟩
  · simp
  · rw [h1]; exact Nat.le_refl _
  · have := congrArg List.length h1
    rw [List.length_append] at this
    omega
def vLen : Value → Nat | .slice _ n _ => n | _ => 0
def BRow (w : World) (B : Nat) (v : Value) (l : List UInt8) : Prop := w.ownsRow B 5 1 v l.length (Go.Lib.byteCells l)
theorem byte_one (l : List UInt8) : ∀ u ∈ Go.Lib.byteCells l, u.oneCell' = true := by
  intro u hu
  obtain ⟨x, _, rfl⟩ := List.mem_map.1 hu
  exact one_one .u8 (x.toNat : Int) _ (List.mem_singleton.2 rfl)
theorem one48_val (u : Nat) : ((one48 (u % 10)).toNat : Int) = 48 + (u : Int) % 10 := by
  have hd : u % 10 < 10 := Nat.mod_lt _ (by omega)
  unfold one48
  rw [ofNat_val hd]
  omega
theorem BRow.some {w : World} {B : Nat} {v : Value} {l : List UInt8} (h : BRow w B v l) (hl : l ≠ []) : ∃ g cap, v = .slice (some ⟨g, 0, none⟩) l.length cap ∧ B ≤ g ∧ ∀ j u, (Go.Lib.byteCells l)[j]? = some u → w.cell? ((⟨g, 0, none⟩ : Addr).add j) = some u := by
  have h' := h
  rcases h.2 with ⟨_, h0⟩ | ⟨g, cap, cur, rfl, hB, _⟩
  · exact absurd (List.eq_nil_of_length_eq_zero h0) hl
  · exact ⟨g, cap, rfl, hB, World.ownsRow.cells h' rfl⟩
theorem new_byte (w : World) (B : Nat) (hB : B ≤ w.heap.size) (z : Value) : (w.alloc (.cells #[z] 5)).ownsRow B 5 1 (.slice (some ⟨w.heap.size, 0, none⟩) 1 1) 1 [z] :=
  World.ownsRow_lit w #[z] 1 hB (by decide) rfl
theorem new_below (w : World) (B : Nat) (hB : B ≤ w.heap.size) (o : Obj) : Below B w (w.alloc o) := (Below.refl w.heap.size w).alloc (Nat.le_refl _) o |>.mono hB
set_option maxHeartbeats 8000000 in
set_option maxRecDepth 100000 in
theorem written_any (n k : Nat) (hn : n < 100000000000000000) (hk : k ≤ 16) (w : World) : Calls Tryz.prog 87 #[.int .i64 (n : Int), .int .i64 (k : Int)] w fun e w' => e = .returned (.string (ba (wrS n k))) ∧ Below w.heap.size w w' := by
  have hdl := dec_len n 17 (by omega) (by omega)
  obtain ⟨i5, hi5, hz5, hsi5, hby5⟩ := info_parts infoByte
  go_enter Tryz.func87, Tryz.ntmps87
  go_wp2
  go_loopw [0, 5] (fun uv v wr => ∃ (u : Nat) (bs : Str), uv = .int .i64 (u : Int) ∧ BRow wr w.heap.size v bs ∧ u ≤ n ∧ Hid (WideAt n u bs) ∧ Hid (bs = [] → v = .slice none 0 0) ∧ Hid (Below w.heap.size w wr)) (fun uv v _ => 2 * (RowKit.intOf uv).toNat + (1 - vLen v))
  case atStart => exact ⟨n, [], rfl, World.ownsRow_nil _ _ _ _, Nat.le_refl _, hid (.inl ⟨rfl, rfl⟩), hid (fun _ => rfl), hid (Below.refl _ _)⟩
  case round =>
    obtain ⟨u, bs, rfl, hrow, hun, HW, hnil, HB⟩ := hrel
    have hsz := HB.out.size
    have hbl := HW.out.short
    have hu62 : u < 100000000000000000 := by omega
    by_cases hbs : bs = []
    · have hv := hnil.out hbs
      subst hv
      by_cases hu : 0 < u
      · have hu1 : decide (0 < (u : Int)) = true := decide_eq_true (by omega)
        have hu2 : (0 : Int) < (u : Int) := by omega
        have hap := run_append_owned_none (P := Tryz.prog) (w := wr.alloc (Obj.cells #[Value.int IntKind.u8 (48 + (u : Int) % 10)] 5)) w.heap.size 59 59 5 i5 1 Tryz.underlying59 hi5 _ 1 _ (new_byte wr w.heap.size hsz (Value.int IntKind.u8 (48 + (u : Int) % 10)))
        have hB2 := hid (HB.out.trans (new_below wr w.heap.size hsz (Obj.cells #[Value.int IntKind.u8 (48 + (u : Int) % 10)] 5)))
        go_wp2
        go_roundw
        case rel =>
          refine ⟨u / 10, one48 (u % 10) :: bs, by simp, ?_, by omega, hid (HW.out.step (.inl hu)), hid (fun h => by cases h), hB2⟩
          subst hbs
          unfold BRow
          show World.ownsRow _ _ _ _ _ 1 [Value.int .u8 ((one48 (u % 10)).toNat : Int)]
          rw [one48_val]
          exact new_byte wr w.heap.size hsz _
        case measure => simp [RowKit.intOf, vLen]; omega
      · obtain rfl : u = 0 := by omega
        have hap := run_append_owned_none (P := Tryz.prog) (w := wr.alloc (Obj.cells #[Value.int IntKind.u8 48] 5)) w.heap.size 59 59 5 i5 1 Tryz.underlying59 hi5 _ 1 _ (new_byte wr w.heap.size hsz (Value.int IntKind.u8 48))
        have hB2 := hid (HB.out.trans (new_below wr w.heap.size hsz (Obj.cells #[Value.int IntKind.u8 48] 5)))
        subst hbs
        go_wp2
        go_roundw
        case rel =>
          refine ⟨0, [one48 0], by simp, ?_, by omega, hid (HW.out.step (.inr rfl)), hid (fun h => by cases h), hB2⟩
          unfold BRow
          exact new_byte wr w.heap.size hsz _
        case measure => simp [RowKit.intOf, vLen]
    · obtain ⟨g, cap, rfl, hg, hcell⟩ := hrow.some hbs
      have hbpos : 0 < bs.length := List.length_pos_iff.2 hbs
      by_cases hu : 0 < u
      · have hu1 : decide (0 < (u : Int)) = true := decide_eq_true (by omega)
        have hu2 : (0 : Int) < (u : Int) := by omega
        have hcell2 : ∀ (o : Obj) j z, (Go.Lib.byteCells bs)[j]? = some z → (wr.alloc o).cell? ((⟨g, 0, none⟩ : Addr).add j) = some z := fun o => (World.ownsRow.alloc hrow o).cells rfl
        have HC := hid hcell2
        have HC3 : Hid (1 + bs.length ≤ maxLen) := by unfold maxLen; exact hid (by omega)
        have HC4 : Hid ((1 + bs.length) * 1 ≤ 140737488355328) := hid (by omega)
        have HC5 : Hid (∀ o : Obj, w.heap.size ≤ (wr.alloc o).heap.size) := hid (fun o => by simp; omega)
        clear hcell hcell2
        go_wp2_with (at_builtin; refine wpList_append_own _ rfl _ _ 59 rfl w.heap.size 5 i5 (.int .u8 0) 1 1 Tryz.underlying59 hi5 hz5 hsi5 hby5 rfl (by decide) _ 1 [Value.int IntKind.u8 (48 + (u : Int) % 10)] rfl (new_byte wr w.heap.size hsz _) ⟨g, 0, none⟩ bs.length cap (Go.Lib.byteCells bs) rfl (by rw [byteCells_len]; simp) (HC.out _) (byte_one _) HC3.out HC4.out (HC5.out _) ?_)
        intro v' w4 hown' hgrow _
        have hg' := grownBy_of_alloc hgrow
        have hb24 : Below w.heap.size wr w4 := (Below.refl _ wr).grown hg' hsz (fun k hk => by simp [Value.ownBlock] at hk; omega)
        have hrow4 : BRow w4 w.heap.size v' (one48 (u % 10) :: bs) := by
          unfold BRow
          show World.ownsRow _ _ _ _ _ (bs.length + 1) (Value.int .u8 ((one48 (u % 10)).toNat : Int) :: Go.Lib.byteCells bs)
          rw [one48_val, Nat.add_comm]
          exact hown'
        obtain ⟨g', cap', rfl, _, _⟩ := hrow4.some (by simp)
        have HR4 := hid hrow4
        have HB4 := hid (HB.out.trans hb24)
        clear hb24 hg' hgrow hown' hrow4 hrow hnil HC HC3 HC4 HC5
        go_wp2
        go_roundw
        case rel => exact ⟨u / 10, one48 (u % 10) :: bs, by simp, HR4.out, by omega, hid (HW.out.step (.inl hu)), hid (fun h => by cases h), HB4⟩
        case measure => simp [RowKit.intOf, vLen]; omega
      · have hu2 : ¬ (0 : Int) < (u : Int) := by omega
        have hdec : bs = decDigits n := HW.out.done (by rintro (h | h); omega; exact hbs h)
        have hbz : ¬ ((bs.length : Int) = 0) := by omega
        have hbz2 : ((bs.length : Int) == 0) = false := by simpa using hbs
        have HROW := hid hrow
        have HDEC := hid hdec
        clear hcell hrow hnil hdec
        go_wp2
        go_loopw [5] (fun v wq => ∃ (j : Nat) (cs : Str), BRow wq w.heap.size v cs ∧ cs ≠ [] ∧ Hid (cs = zerosS j ++ decDigits n) ∧ Hid (j = 0 ∨ j + (decDigits n).length ≤ k) ∧ Hid (Below w.heap.size w wq)) (fun v _ => k - vLen v)
        case atStart => exact ⟨0, bs, HROW.out, hbs, hid (by rw [HDEC.out]; rfl), hid (.inl rfl), HB⟩
        case round =>
          obtain ⟨j, cs, hrow, hcs, hcz, hj, HB⟩ := hrel
          obtain ⟨g, cap, rfl, hg, hcell⟩ := hrow.some hcs
          have hlen : Hid (cs.length = j + (decDigits n).length) := hid (by rw [hcz.out]; simp [zerosS])
          have hcl : cs.length ≤ 17 := by
            have h1 := hlen.out
            rcases hj.out with h | h <;> omega
          have hsz := HB.out.size
          by_cases hlt : cs.length < k
          · have hltz : (cs.length : Int) < (k : Int) := by omega
            have hcell2 : ∀ (o : Obj) j z, (Go.Lib.byteCells cs)[j]? = some z → (wr.alloc o).cell? ((⟨g, 0, none⟩ : Addr).add j) = some z := fun o => (World.ownsRow.alloc hrow o).cells rfl
            have HC := hid hcell2
            have HC3 : Hid (1 + cs.length ≤ maxLen) := by unfold maxLen; exact hid (by omega)
            have HC4 : Hid ((1 + cs.length) * 1 ≤ 140737488355328) := hid (by omega)
            have HC5 : Hid (∀ o : Obj, w.heap.size ≤ (wr.alloc o).heap.size) := hid (fun o => by simp; omega)
            clear hcell hcell2
            go_wp2_with (at_builtin; refine wpList_append_own _ rfl _ _ 59 rfl w.heap.size 5 i5 (.int .u8 0) 1 1 Tryz.underlying59 hi5 hz5 hsi5 hby5 rfl (by decide) _ 1 [Value.int IntKind.u8 48] rfl (new_byte wr w.heap.size hsz _) ⟨g, 0, none⟩ cs.length cap (Go.Lib.byteCells cs) rfl (by rw [byteCells_len]; simp) (HC.out _) (byte_one _) HC3.out HC4.out (HC5.out _) ?_)
            intro v' w4 hown' hgrow _
            have hg' := grownBy_of_alloc hgrow
            have hb24 : Below w.heap.size wr w4 := (Below.refl _ wr).grown hg' hsz (fun k hk => by simp [Value.ownBlock] at hk; omega)
            have hrow4 : BRow w4 w.heap.size v' (48 :: cs) := by
              unfold BRow
              show World.ownsRow _ _ _ _ _ (cs.length + 1) (Value.int .u8 48 :: Go.Lib.byteCells cs)
              rw [Nat.add_comm]
              exact hown'
            obtain ⟨g', cap', rfl, _, _⟩ := hrow4.some (by simp)
            have HR4 := hid hrow4
            have HB4 := hid (HB.out.trans hb24)
            clear hb24 hg' hgrow hown' hrow4 hrow HC HC3 HC4 HC5
            go_wp2
            go_roundw
            case rel => exact ⟨j + 1, 48 :: cs, HR4.out, by simp, hid (by rw [hcz.out]; simp [zerosS, List.replicate_succ]), hid (.inr (by have := hlen.out; omega)), HB4⟩
            case measure => simp [vLen]; omega
          · have hltz : ¬ (cs.length : Int) < (k : Int) := by omega
            have hcv := row_string (P := Tryz.prog) hrow 59 5 9 Tryz.underlying59 Tryz.underlying5 Tryz.underlying9
            have hz : Hid (⟨cs.toArray⟩ = ba (wrS n k)) := hid (by
              have hjk : j = k - (decDigits n).length := by
                have h1 := hlen.out
                rcases hj.out with h | h <;> omega
              show ba cs = _
              rw [hcz.out, hjk]
              rfl)
            clear hcell hrow hcz
            go_wp2
            go_ret
            exact ⟨by rw [← hz.out]; rfl, HB.out⟩
def followsB (c p : Str) (k : Nat) : Bool := hasL p && decide (c = preS p ++ wrS (numL p + 1) k)
set_option maxHeartbeats 4000000 in
set_option maxRecDepth 100000 in
theorem follows_any (c p : ByteArray) (k : Nat) (hc : c.size ≤ 16) (hp : p.size ≤ 16) (hk : k ≤ 16) (w : World) :
    Calls Tryz.prog 62 #[.string c, .string p, .int .i64 (k : Int)] w fun e w' => e = .returned (.bool (followsB (lst c) (lst p) k)) ∧ Below w.heap.size w w' := by
  have cT := tail_any p hp
  obtain ⟨h16l, h16p⟩ := last_len (lst p) (by rw [← Lib.size_eq]; exact hp)
  have hdg := last_dgs (lst p)
  have hnum : numL (lst p) < 10000000000000001 := by
    have h1 := numN_lt _ hdg
    have h2 : 10 ^ (lastS (lst p)).length ≤ 10 ^ 16 := Nat.pow_le_pow_right (by omega) h16l
    have h3 : 10 ^ 16 = 10000000000000000 := by decide
    unfold numL
    omega
  have cN := number_any (ba (lastS (lst p))) h16l hdg
  rw [show numN (lst (ba (lastS (lst p)))) = numL (lst p) from rfl] at cN
  obtain ⟨ANS, hANS⟩ : ∃ ANS, followsB (lst c) (lst p) k = ANS := ⟨_, rfl⟩
  rw [hANS]
  unfold followsB hasL at hANS
  have hsz : (ba (lastS (lst p))).size = (lastS (lst p)).length := rfl
  have hfz : (ba (preS (lst p))).size = (preS (lst p)).length := rfl
  obtain ⟨N, hN⟩ : ∃ N, numL (lst p) = N := ⟨_, rfl⟩
  rw [hN] at cN hnum hANS
  have hW := fun w => written_any (N + 1) k (by omega) hk w
  rw [show ((N + 1 : Nat) : Int) = (N : Int) + 1 by omega] at hW
  have hwl : (ba (wrS (N + 1) k)).size ≤ 20 := by
    have h1 := dec_len (N + 1) 17 (by omega) (by omega)
    show (wrS (N + 1) k).length ≤ 20
    rw [wr_len]
    omega
  by_cases h0 : 0 < (ba (lastS (lst p))).size
  · obtain ⟨x1, x2, x3, x4⟩ := str_no h0
    have hne : (lastS (lst p)).isEmpty = false := by
      cases h : lastS (lst p) with
      | nil => rw [h] at h0; exact absurd h0 (by decide)
      | cons a b => rfl
    rw [hne] at hANS
    generalize ba (lastS (lst p)) = LA at *
    have hS : ba (preS (lst p)) ++ ba (wrS (N + 1) k) = ba (preS (lst p) ++ wrS (N + 1) k) := by apply ByteArray.ext; simp [ba]
    have add1 : ∀ w, (Op.stringOp .add (ba (preS (lst p))) (ba (wrS (N + 1) k))).run Tryz.prog w = .ok (.string (ba (preS (lst p) ++ wrS (N + 1) k))) w := fun w => by
      rw [run_string_add_sum (w := w) _ _ (by omega), hS]
    have hw1 : IntKind.i64.wrap ((N : Int) + 1) = (N : Int) + 1 := IntWalk.i64_in _ (by omega)
    obtain ⟨S, hSS⟩ : ∃ S, ba (preS (lst p) ++ wrS (N + 1) k) = S := ⟨_, rfl⟩
    have hA2 : Hid (lst c = lst S → ANS = true) := hid (fun h => by
      rw [← hANS]
      rw [← hSS] at h
      simp
      exact h)
    have hA3 : Hid (¬ lst c = lst S → ANS = false) := hid (fun h => by
      rw [← hANS]
      rw [← hSS] at h
      simp
      exact h)
    rw [hSS] at add1
    generalize ba (preS (lst p)) = FR at *
    generalize ba (wrS (N + 1) k) = WR at *
    have CT := hid cT
    have CN := hid cN
    have CW := hid hW
    clear cT cN hW hS hSS hANS hdg h16l h16p hN hne hsz hfz
    rcases str_eq (a := c) (b := S) with ⟨he, t1, t2⟩ | ⟨he, t1, t2⟩
    · have hr := hA2.out he
      subst hr
      clear he hA2 hA3
      go_enter Tryz.func62, Tryz.ntmps62
      go_wp2_with fail
      refine (CT.out _).mono ?_
      rintro e w1 ⟨rfl, q, rfl⟩
      have HB1 : Hid (Below w.heap.size w (w.drewN q)) := hid (below_drewN (Below.refl _ _) q)
      go_wp2_with fail
      refine (CN.out _).mono ?_
      rintro e w2 ⟨rfl, rfl⟩
      go_wp2_with fail
      refine (CW.out _).mono ?_
      rintro e w3 ⟨rfl, hb3⟩
      have HB3 := hid (HB1.out.trans (hb3.mono HB1.out.size))
      clear hb3
      go_wp2
      go_ret
      exact ⟨rfl, HB3.out⟩
    · have hr := hA3.out he
      subst hr
      clear he hA2 hA3
      go_enter Tryz.func62, Tryz.ntmps62
      go_wp2_with fail
      refine (CT.out _).mono ?_
      rintro e w1 ⟨rfl, q, rfl⟩
      have HB1 : Hid (Below w.heap.size w (w.drewN q)) := hid (below_drewN (Below.refl _ _) q)
      go_wp2_with fail
      refine (CN.out _).mono ?_
      rintro e w2 ⟨rfl, rfl⟩
      go_wp2_with fail
      refine (CW.out _).mono ?_
      rintro e w3 ⟨rfl, hb3⟩
      have HB3 := hid (HB1.out.trans (hb3.mono HB1.out.size))
      clear hb3
      go_wp2
      go_ret
      exact ⟨rfl, HB3.out⟩
  · obtain ⟨x1, x2, x3, x4⟩ := str_yes h0
    have hne : (lastS (lst p)).isEmpty = true := by
      cases h : lastS (lst p) with
      | nil => rfl
      | cons a b => rw [h] at h0; exact absurd (Nat.succ_pos _) h0
    have hr : ANS = false := by rw [← hANS, hne]; rfl
    subst hr
    generalize ba (lastS (lst p)) = LA at *
    generalize ba (preS (lst p)) = FR at *
    have CT := hid cT
    clear cT cN hW hANS hdg h16l h16p hN hne hsz hfz
    go_enter Tryz.func62, Tryz.ntmps62
    go_wp2_with fail
    refine (CT.out _).mono ?_
    rintro e w1 ⟨rfl, q, rfl⟩
    have HB1 : Hid (Below w.heap.size w (w.drewN q)) := hid (below_drewN (Below.refl _ _) q)
    go_wp2
    go_ret
    exact ⟨rfl, HB1.out⟩
theorem nth_zero (f : Str) (h : hasL f = true) : nthS f 0 = f := by
  unfold nthS numL
  rw [Nat.add_zero]
  have hne : (lastS f).length ≠ 0 := fun e => by
    have := List.eq_nil_of_length_eq_zero e
    unfold hasL at h
    rw [this] at h
    simp at h
  obtain ⟨k, hk⟩ : ∃ k, (lastS f).length = k + 1 := ⟨(lastS f).length - 1, by omega⟩
  rw [wr_self k _ hk (last_dgs f), pre_split]
theorem follows_nth (f c : Str) (d : Nat) : followsB c (nthS f d) (lastS f).length = decide (c = nthS f (d + 1)) := by
  unfold followsB
  rw [has_nth, pre_nth, num_nth]
  simp only [Bool.true_and]
  rfl
theorem follows_none (f c : Str) (k : Nat) (h : hasL f = false) : followsB c f k = false := by
  unfold followsB
  rw [h]
  rfl
structure RunAt (f : Str) (r0 : List Str) (i : Nat) (p : Str) (r : List Str) : Prop where
  one : 1 ≤ i
  run : aheadM (f :: r0) = if hasL f = true then aheadGo f i r else 1
  prev : hasL f = true → p = nthS f (i - 1)
  no : hasL f = false → i = 1 ∧ p = f
theorem RunAt.start (f : Str) (r : List Str) : RunAt f r 1 f r :=
  ⟨Nat.le_refl _, rfl, fun h => (nth_zero f h).symm, fun _ => ⟨rfl, rfl⟩⟩
theorem RunAt.on {f p c : Str} {r0 r : List Str} {i : Nat} (h : RunAt f r0 i p (c :: r)) (hf : followsB c p (lastS f).length = true) : RunAt f r0 (i + 1) c r := by
  cases hh : hasL f with
  | false =>
    obtain ⟨_, rfl⟩ := h.no hh
    rw [follows_none _ _ _ hh] at hf
    cases hf
  | true =>
    have h1 := h.one
    rw [h.prev hh, follows_nth, show i - 1 + 1 = i by omega] at hf
    have hc : c = nthS f i := by simpa using hf
    refine ⟨by omega, ?_, fun _ => by rw [Nat.add_sub_cancel]; exact hc, fun e => by rw [hh] at e; cases e⟩
    rw [h.run, if_pos hh, if_pos hh]
    exact if_pos hc
theorem RunAt.off {f p c : Str} {r0 r : List Str} {i : Nat} (h : RunAt f r0 i p (c :: r)) (hf : followsB c p (lastS f).length = false) : aheadM (f :: r0) = i := by
  cases hh : hasL f with
  | false =>
    rw [h.run, if_neg (by rw [hh]; simp)]
    exact (h.no hh).1.symm
  | true =>
    have h1 := h.one
    rw [h.prev hh, follows_nth, show i - 1 + 1 = i by omega] at hf
    have hc : ¬ c = nthS f i := by simpa using hf
    rw [h.run, if_pos hh]
    exact if_neg hc
theorem RunAt.end_ {f p : Str} {r0 : List Str} {i : Nat} (h : RunAt f r0 i p []) : aheadM (f :: r0) = i := by
  cases hh : hasL f with
  | false =>
    rw [h.run, if_neg (by rw [hh]; simp)]
    exact (h.no hh).1.symm
  | true =>
    rw [h.run, if_pos hh]
    rfl
theorem semi_snoc : ∀ (ps : List Str) (p : Str), semi (ps ++ [p]) = if ps = [] then p else semi ps ++ 59 :: p
  | [], p => rfl
  | [q], p => rfl
  | q :: x :: r, p => by
    have ih := semi_snoc (x :: r) p
    rw [if_neg (by simp)] at ih ⊢
    show q ++ 59 :: semi (x :: (r ++ [p])) = (q ++ 59 :: semi (x :: r)) ++ 59 :: p
    rw [show x :: (r ++ [p]) = x :: r ++ [p] from rfl, ih]
    simp
end Go.Proofs.YtlgmanbilaminaaGreatDoor.S3
