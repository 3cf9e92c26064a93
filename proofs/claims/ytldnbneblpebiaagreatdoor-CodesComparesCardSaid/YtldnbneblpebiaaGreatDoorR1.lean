/-
  Natural order: the reference's element, bare, order. Conditions: the strings fit into memory.
-/
import Derived.Test.YtldnbneblpebiaaGreatDoorC6
set_option linter.unusedVariables false
namespace Go.Proofs.YtldnbneblpebiaaGreatDoor
open Go Go.Proofs Go.RowKit Go.Lib

theorem ex_drew {w w' : World} (h : ∃ q, w' = w.drewN q) (n : Nat) : ∃ q, w'.drewN n = w.drewN q := by
  obtain ⟨q, rfl⟩ := h
  exact ⟨q + n, by rw [World.drewN_drewN]⟩
/-- What element hands back. -/
def ElemOut (s : ByteArray) (w : World) (e : Ending) (w' : World) : Prop :=
  (∃ X Y : ByteArray, e = .returned (.tuple #[.string X, .string Y]) ∧ lst X = (lst s).take (elemN (lst s)) ∧ lst Y = (lst s).drop (elemN (lst s))) ∧ ∃ q, w' = w.drewN q

set_option maxHeartbeats 4000000 in
set_option maxRecDepth 100000 in
theorem element_any (s : ByteArray) (h0 : 0 < s.size) (hs : s.size ≤ 9223372036854775807) (w : World) : Calls Tryz.prog 36 #[.string s] w (ElemOut s w) := by
  have hl0 : 0 < (lst s).length := by rw [← Lib.size_eq]; exact h0
  have hst := fun k hk h => elemN_step (lst s) hl0 k hk h
  have hsp := fun k hk h => elemN_stop (lst s) hl0 k hk h
  rw [show (lst s)[0] = s[0]'h0 from rfl] at hst hsp
  obtain ⟨x0, hx0⟩ : ∃ x, s[0]'h0 = x := ⟨_, rfl⟩
  rw [show dg (s[0]'h0) = dg x0 by rw [hx0]] at hst hsp
  have c0 := digit_any x0
  obtain ⟨d, hd⟩ : ∃ d, dg x0 = d := ⟨_, rfl⟩
  rw [hd] at hst hsp c0
  have HST := hid hst
  have HSP := hid hsp
  have h1 := hid (elemN_pos (lst s) (lst_ne h0))
  clear hst hsp hd
  go_enter Tryz.func36, Tryz.ntmps36
  go_wp2
  go_loopw [4] (fun i wr => ∃ (k : Nat), 1 ≤ k ∧ k ≤ s.size ∧ i = .int .i64 (k : Int) ∧ Hid (k ≤ elemN (lst s)) ∧ Hid (∃ q, wr = w.drewN q)) (fun i _ => s.size - (RowKit.intOf i).toNat)
  case atStart => exact ⟨1, Nat.le_refl _, h0, rfl, h1, hid ⟨0, rfl⟩⟩
  case round =>
    obtain ⟨k, hk1, hk, rfl, hle, hD⟩ := hrel
    by_cases hlt : k < s.size
    · have hltz : (k : Int) < (s.size : Int) := by omega
      have hltd : decide ((k : Int) < (s.size : Int)) = true := decide_eq_true hltz
      have hltn : decide (k < s.size) = true := decide_eq_true hlt
      have hlt' : k < (lst s).length := by rw [← Lib.size_eq]; exact hlt
      have h1 := HST.out k hlt' hle.out
      have h2 := HSP.out k hlt' hle.out
      have e1 : (lst s)[k] = s[k]'hlt := rfl
      rw [e1] at h1 h2
      obtain ⟨x, hx⟩ : ∃ x, s[k]'hlt = x := ⟨_, rfl⟩
      rw [hx] at h1 h2
      have cX := digit_any x
      have H1 := hid h1
      have H2 := hid h2
      clear h1 h2 e1
      by_cases hdx : dg x = d
      · have hN : Hid (k + 1 ≤ elemN (lst s)) := hid (H1.out hdx)
        rw [hdx] at cX
        have hdd : (d == d) = true := by simp
        clear hdx H1 H2
        go_wp2
        go_quiet ((first | (go_at_call_of 29 x.toNat; with_reducible refine Calls.quiet_of_same ((cX _).mono fun _ _ h => ⟨h.1, h.2.symm⟩)) | (go_at_call_of 29 x0.toNat; with_reducible refine Calls.quiet_of_same ((c0 _).mono fun _ _ h => ⟨h.1, h.2.symm⟩))))
        go_wp2
        go_roundw
        case rel => exact ⟨k + 1, by omega, by omega, by go_num, hN, hid (ex_drew hD.out _)⟩
        case measure => simp [RowKit.intOf]; omega
      · have hN : Hid (elemN (lst s) = k) := hid (H2.out hdx)
        have hdd : (dg x == d) = false := by simpa using hdx
        clear hdx H1 H2
        have hkz : (0 : Int) ≤ (k : Int) := by omega
        have hkz2 : (k : Int) ≤ (s.size : Int) := by omega
        go_wp2
        go_quiet ((first | (go_at_call_of 29 x.toNat; with_reducible refine Calls.quiet_of_same ((cX _).mono fun _ _ h => ⟨h.1, h.2.symm⟩)) | (go_at_call_of 29 x0.toNat; with_reducible refine Calls.quiet_of_same ((c0 _).mono fun _ _ h => ⟨h.1, h.2.symm⟩))))
        go_wp2
        go_quiet (fail)
        go_wp2
        go_ret2
        unfold ElemOut
        refine ⟨⟨_, _, rfl, ?_, ?_⟩, ex_drew (ex_drew hD.out _) _⟩
        · rw [lst_extract, hN.out]; simp
        · rw [lst_extract, hN.out, List.take_of_length_le (by rw [← Lib.size_eq]; exact Nat.le_refl _)]
    · have hltz : ¬ (k : Int) < (s.size : Int) := by omega
      have hltd : decide ((k : Int) < (s.size : Int)) = false := decide_eq_false hltz
      have hltn : decide (k < s.size) = false := decide_eq_false hlt
      have hks : k = s.size := by omega
      have hN : Hid (elemN (lst s) = k) := hid (by
        have := elemN_le (lst s)
        have h2 := hle.out
        have e : s.size = (lst s).length := Lib.size_eq s
        omega)
      have hkz : (0 : Int) ≤ (k : Int) := by omega
      have hkz2 : (k : Int) ≤ (s.size : Int) := by omega
      clear hks
      go_wp2
      go_quiet (fail)
      go_wp2
      go_quiet (fail)
      go_wp2
      go_ret2
      unfold ElemOut
      refine ⟨⟨_, _, rfl, ?_, ?_⟩, ex_drew (ex_drew hD.out _) _⟩
      · rw [lst_extract, hN.out]; simp
      · rw [lst_extract, hN.out, List.take_of_length_le (by rw [← Lib.size_eq]; exact Nat.le_refl _)]

theorem bareS_step (S : ByteArray) (h : 0 < S.size) (e : S[0]'h = 48) : bareS (lst (S.extract 1 S.size)) = bareS (lst S) := by
  rw [lst_extract, List.take_of_length_le (by rw [← Lib.size_eq]; exact Nat.le_refl _)]
  have h' : 0 < (lst S).length := by rw [← Lib.size_eq]; exact h
  cases hl : lst S with
  | nil => rw [hl] at h'; simp at h'
  | cons c r =>
    have : c = 48 := by
      have e2 : (lst S)[0] = S[0]'h := rfl
      rw [e] at e2
      simpa [hl] using e2
    subst this
    simp [bareS]
theorem bareS_stop (S : ByteArray) (h : 0 < S.size) (e : S[0]'h ≠ 48) : bareS (lst S) = lst S := by
  have h' : 0 < (lst S).length := by rw [← Lib.size_eq]; exact h
  cases hl : lst S with
  | nil => rfl
  | cons c r =>
    have : c ≠ 48 := by
      have e2 : (lst S)[0] = S[0]'h := rfl
      rw [← e2] at e
      simpa [hl] using e
    simp [bareS, this]

set_option maxHeartbeats 4000000 in
set_option maxRecDepth 100000 in
theorem bare_any (s : ByteArray) (hs : s.size ≤ 9223372036854775807) (w : World) : Calls Tryz.prog 37 #[.string s] w fun e w' => (∃ A : ByteArray, e = .returned (.string A) ∧ lst A = bareS (lst s) ∧ A.size ≤ s.size) ∧ w = w' := by
  go_enter Tryz.func37, Tryz.ntmps37
  go_wp2
  go_loop [0] (fun v => ∃ S : ByteArray, v = .string S ∧ S.size ≤ s.size ∧ Hid (bareS (lst S) = bareS (lst s))) (fun v => strSize v)
  case atStart => exact ⟨s, rfl, Nat.le_refl _, hid rfl⟩
  case round =>
    obtain ⟨S, rfl, hSs, hE⟩ := hrel
    by_cases hlt : 0 < S.size
    · have hltz : (0 : Int) < (S.size : Int) := by omega
      have h1z : (1 : Int) ≤ (S.size : Int) := by omega
      have hs1 := bareS_step S hlt
      have hs2 := bareS_stop S hlt
      obtain ⟨x, hx⟩ : ∃ x, S[0]'hlt = x := ⟨_, rfl⟩
      rw [hx] at hs1 hs2
      by_cases h48 : x = 48
      · have hz : ((x.toNat : Int) == 48) = true := by rw [h48]; rfl
        have hn := hid (hs1 h48)
        clear h48 hs1 hs2
        go_wp2
        go_round
        case rel => exact ⟨_, rfl, by rw [ByteArray.size_extract]; omega, by rw [hn.out]; exact hE⟩
        case measure =>
          show (S.extract 1 S.size).size < S.size
          rw [ByteArray.size_extract]
          omega
      · have hz : ((x.toNat : Int) == 48) = false := by
          have : x.toNat ≠ 48 := fun e => h48 (UInt8.toNat_inj.1 e)
          simp
          omega
        have hn := hid (hs2 h48)
        clear h48 hs1 hs2
        go_wp2
        go_ret
        exact ⟨⟨S, rfl, by rw [← hE.out, hn.out], hSs⟩, rfl⟩
    · have hltz : ¬ (0 : Int) < (S.size : Int) := by omega
      have hn := hid (lst_nil hlt)
      go_wp2
      go_ret
      exact ⟨⟨S, rfl, by rw [← hE.out, hn.out]; rfl, hSs⟩, rfl⟩

theorem less_cases : ∀ (a b : Str), (Op.bytesLess a b = true ∧ compareBytes a b = -1) ∨ (Op.bytesLess a b = false ∧ (a == b) = false ∧ compareBytes a b = 1) ∨ (Op.bytesLess a b = false ∧ (a == b) = true ∧ compareBytes a b = 0)
  | [], [] => .inr (.inr ⟨rfl, rfl, rfl⟩)
  | [], _ :: _ => .inl ⟨rfl, rfl⟩
  | _ :: _, [] => .inr (.inl ⟨rfl, rfl, rfl⟩)
  | x :: a, y :: b => by
    have ih := less_cases a b
    unfold Op.bytesLess compareBytes
    by_cases h1 : x < y
    · exact .inl ⟨by simp [h1], by rw [if_pos h1]⟩
    · have hd : decide (x < y) = false := by simpa using h1
      rw [hd, if_neg h1]
      by_cases h2 : y < x
      · have hne : ¬ x = y := by
          rw [UInt8.lt_iff_toNat_lt] at h2
          intro e
          rw [e] at h2
          omega
        have hb : (x == y) = false := by simpa using hne
        rw [if_pos h2, hb]
        exact .inr (.inl ⟨rfl, by simp [hne], rfl⟩)
      · have he : x = y := by
          rw [UInt8.lt_iff_toNat_lt] at h1 h2
          exact UInt8.toNat_inj.1 (by omega)
        subst he
        rw [if_neg h2, show (x == x) = true by simp, show ((x :: a) == (x :: b)) = (a == b) by simp]
        simpa using ih

set_option maxHeartbeats 1000000 in
theorem order_any (a b : ByteArray) (w : World) : Calls Tryz.prog 38 #[.string a, .string b] w fun e w' => e = .returned (.int .i64 (compareBytes (lst a) (lst b))) ∧ w = w' := by
  have h := less_cases a.toList b.toList
  rw [Lib.toList_data, Lib.toList_data] at h
  change (Op.bytesLess (lst a) (lst b) = true ∧ compareBytes (lst a) (lst b) = -1) ∨ (Op.bytesLess (lst a) (lst b) = false ∧ ((lst a) == (lst b)) = false ∧ compareBytes (lst a) (lst b) = 1) ∨ (Op.bytesLess (lst a) (lst b) = false ∧ ((lst a) == (lst b)) = true ∧ compareBytes (lst a) (lst b) = 0) at h
  rcases h with ⟨h1, e⟩ | ⟨h1, h2, e⟩ | ⟨h1, h2, e⟩ <;> rw [e] <;> clear e
  · have h1' : Op.bytesLess a.toList b.toList = true := by rw [Lib.toList_data, Lib.toList_data]; exact h1
    clear h1
    go_enter Tryz.func38, Tryz.ntmps38
    go_wp2
    go_ret
    exact ⟨rfl, rfl⟩
  · have h1' : Op.bytesLess a.toList b.toList = false := by rw [Lib.toList_data, Lib.toList_data]; exact h1
    have h2' : (a.toList == b.toList) = false := by rw [Lib.toList_data, Lib.toList_data]; exact h2
    clear h1 h2
    go_enter Tryz.func38, Tryz.ntmps38
    go_wp2
    go_ret
    exact ⟨rfl, rfl⟩
  · have h1' : Op.bytesLess a.toList b.toList = false := by rw [Lib.toList_data, Lib.toList_data]; exact h1
    have h2' : (a.toList == b.toList) = true := by rw [Lib.toList_data, Lib.toList_data]; exact h2
    clear h1 h2
    go_enter Tryz.func38, Tryz.ntmps38
    go_wp2
    go_ret
    exact ⟨rfl, rfl⟩
end Go.Proofs.YtldnbneblpebiaaGreatDoor
