/-
  What the reference's Valid and quoted of layer 2 return. Conditions: none beyond the types.
-/
import Derived.Test.YtcpkefjijinhiaaDoorStrs
import Derived.Lib.TrimUEq
import Derived.Lib.Strings
import Derived.Shelf.Unicode.DecodeSlow
set_option linter.unusedVariables false
namespace Go.Proofs.YtcpkefjijinhiaaDoor
open Go Go.Proofs Go.RowKit Go.Lib

/-- A dialect as a value. -/
def dialV (D Q : UInt8) : Value := .agg #[.int .u8 (D.toNat : Int), .int .u8 (Q.toNat : Int)]
def validB (D Q : UInt8) : Bool := (D.toNat == 44 || D.toNat == 59 || D.toNat == 124 || D.toNat == 9) && (Q.toNat == 34 || Q.toNat == 39)

set_option maxHeartbeats 4000000 in
theorem refValid_any (D Q : UInt8) (w : World) : Calls Tryd.prog 11 #[dialV D Q] w fun e w' => e = .returned (.bool (validB D Q)) ∧ Below w.heap.size w w' := by
  unfold dialV validB
  obtain ⟨d, hd⟩ : ∃ d, D.toNat = d := ⟨_, rfl⟩
  obtain ⟨q, hq⟩ : ∃ q, Q.toNat = q := ⟨_, rfl⟩
  rw [hd, hq]
  clear hd hq
  have hD : d = 44 ∨ d = 59 ∨ d = 124 ∨ d = 9 ∨ (((d : Int) == 44) = false ∧ ((d : Int) == 59) = false ∧ ((d : Int) == 124) = false ∧ ((d : Int) == 9) = false ∧ (d == 44) = false ∧ (d == 59) = false ∧ (d == 124) = false ∧ (d == 9) = false) := by
    simp only [beq_eq_false_iff_ne]
    omega
  have hQ : q = 34 ∨ q = 39 ∨ (((q : Int) == 34) = false ∧ ((q : Int) == 39) = false ∧ (q == 34) = false ∧ (q == 39) = false) := by
    simp only [beq_eq_false_iff_ne]
    omega
  rcases hD with rfl | rfl | rfl | rfl | ⟨h1, h2, h3, h4, n1, n2, n3, n4⟩ <;> rcases hQ with rfl | rfl | ⟨g1, g2, m1, m2⟩
  all_goals
    go_enter Tryd.func11, Tryd.ntmps11
    go_wp2
    go_ret
    refine ⟨?_, (Below.refl _ w).alloc (Nat.le_refl _) _⟩
    first | rfl | simp [*]

/-- Which signs make a field want quotes. -/
def wantC (D Q c : UInt8) : Bool := c.toNat == D.toNat || c.toNat == Q.toNat || c.toNat == 10 || c.toNat == 13
/-- What quoted returns. -/
def needB (D Q : UInt8) (s : Str) (first only : Bool) : Bool := if s = [] then only else if (first && (s.getD 0 0).toNat == 35) = true then true else s.any (wantC D Q)

theorem below_dr {B : Nat} {a w : World} (h : Below B a w) : ∀ q, Below B a (w.drewN q)
  | 0 => h
  | q + 1 => (below_dr h q).drew
theorem int_beq (a b : Nat) : ((a : Int) == (b : Int)) = (a == b) := by
  rw [Bool.eq_iff_iff]
  simp only [beq_iff_eq]
  omega
theorem want_cases (D Q x : UInt8) : (((x.toNat : Int) == (D.toNat : Int)) = true ∧ Hid (wantC D Q x = true)) ∨ (((x.toNat : Int) == (D.toNat : Int)) = false ∧ ((x.toNat : Int) == (Q.toNat : Int)) = true ∧ Hid (wantC D Q x = true)) ∨
    (((x.toNat : Int) == (D.toNat : Int)) = false ∧ ((x.toNat : Int) == (Q.toNat : Int)) = false ∧ ((x.toNat : Int) == 10) = true ∧ Hid (wantC D Q x = true)) ∨
    (((x.toNat : Int) == (D.toNat : Int)) = false ∧ ((x.toNat : Int) == (Q.toNat : Int)) = false ∧ ((x.toNat : Int) == 10) = false ∧ ((x.toNat : Int) == 13) = true ∧ Hid (wantC D Q x = true)) ∨
    (((x.toNat : Int) == (D.toNat : Int)) = false ∧ ((x.toNat : Int) == (Q.toNat : Int)) = false ∧ ((x.toNat : Int) == 10) = false ∧ ((x.toNat : Int) == 13) = false ∧ Hid (wantC D Q x = false)) := by
  have e10 : ((x.toNat : Int) == 10) = (x.toNat == 10) := int_beq x.toNat 10
  have e13 : ((x.toNat : Int) == 13) = (x.toNat == 13) := int_beq x.toNat 13
  rw [int_beq, int_beq, e10, e13]
  unfold wantC
  cases h1 : (x.toNat == D.toNat) with
  | true => exact .inl ⟨rfl, hid (by simp)⟩
  | false =>
    cases h2 : (x.toNat == Q.toNat) with
    | true => exact .inr (.inl ⟨rfl, rfl, hid (by simp)⟩)
    | false =>
      cases h3 : (x.toNat == 10) with
      | true => exact .inr (.inr (.inl ⟨rfl, rfl, rfl, hid (by simp)⟩))
      | false =>
        cases h4 : (x.toNat == 13) with
        | true => exact .inr (.inr (.inr (.inl ⟨rfl, rfl, rfl, rfl, hid (by simp)⟩)))
        | false => exact .inr (.inr (.inr (.inr ⟨rfl, rfl, rfl, rfl, hid (by simp)⟩)))

set_option maxHeartbeats 4000000 in
set_option maxRecDepth 100000 in
theorem refQuoted_any (S : ByteArray) (D Q : UInt8) (first only : Bool) (hS : S.size ≤ 140737488355328) (w : World) :
    Calls Tryd.prog 32 #[.string S, dialV D Q, .bool first, .bool only] w fun e w' => e = .returned (.bool (needB D Q S.data.toList first only)) ∧ Below w.heap.size w w' := by
  obtain ⟨ANS, hANS⟩ : ∃ ANS, needB D Q S.data.toList first only = ANS := ⟨_, rfl⟩
  rw [hANS]
  unfold dialV
  by_cases h0 : S.size = 0
  · have hS0 : S = ⟨#[]⟩ := by
      cases S with
      | mk d =>
        have : d.size = 0 := h0
        rw [Array.size_eq_zero_iff.1 this]
    subst hS0
    have h1 : ANS = only := by rw [← hANS]; rfl
    subst h1
    clear hANS
    go_enter Tryd.func32, Tryd.ntmps32
    go_wp2
    go_ret
    exact ⟨rfl, (Below.refl _ w).alloc (Nat.le_refl _) _⟩
  · have hne : S.toList.isEmpty = false := by
      rw [Lib.toList_data]
      cases hl : S.data.toList with
      | nil => exact absurd (by rw [Lib.size_eq, hl]; rfl) h0
      | cons a t => rfl
    have hne' : S.data.toList ≠ [] := fun h => h0 (by rw [Lib.size_eq, h]; rfl)
    have h0z : (0 : Int) < (S.size : Int) := by omega
    have h0n : 0 < S.size := by omega
    obtain ⟨x0, hx0⟩ : ∃ x0, S[0]'h0n = x0 := ⟨_, rfl⟩
    have hg0 : S.data.toList.getD 0 0 = x0 := by rw [Lib.getD_get!', ← hx0]; exact Utf8W.get!_of_lt S 0 h0n
    have hA : ANS = if (first && x0.toNat == 35) = true then true else S.data.toList.any (wantC D Q) := by rw [← hANS, ← hg0]; unfold needB; rw [if_neg hne']
    clear hANS hg0 hne'
    have hcase : (first = true ∧ ((x0.toNat : Int) == 35) = true ∧ ANS = true) ∨ ((first = false ∨ (first = true ∧ ((x0.toNat : Int) == 35) = false)) ∧ ANS = S.data.toList.any (wantC D Q)) := by
      by_cases h35 : x0.toNat = 35
      · cases first
        · exact .inr ⟨.inl rfl, by rw [hA]; simp⟩
        · exact .inl ⟨rfl, by rw [h35]; rfl, by rw [hA, h35]; rfl⟩
      · have e : (x0.toNat == 35) = false := by simp [h35]
        refine .inr ⟨?_, by rw [hA, e, Bool.and_false]; rfl⟩
        cases first
        · exact .inl rfl
        · exact .inr ⟨rfl, by simp; omega⟩
    clear hA
    rcases hcase with ⟨rfl, h35, rfl⟩ | ⟨hf, hA⟩
    · go_enter Tryd.func32, Tryd.ntmps32
      go_wp2
      go_ret
      exact ⟨rfl, (Below.refl _ w).alloc (Nat.le_refl _) _⟩
    · have HA := hid hA
      clear hA
      rcases hf with rfl | ⟨rfl, h35⟩
      all_goals
        go_enter Tryd.func32, Tryd.ntmps32
        go_wp2
        go_loopw [9] (fun i wr => ∃ k : Nat, i = .int .i64 (k : Int) ∧ k ≤ S.size ∧ Hid ((S.data.toList.drop k).any (wantC D Q) = ANS) ∧ ∃ q, wr = (w.alloc (.cells #[.int .u8 (D.toNat : Int), .int .u8 (Q.toNat : Int)] 23)).drewN q) (fun i _ => S.size - (RowKit.intOf i).toNat)
        case atStart => exact ⟨0, rfl, Nat.zero_le _, hid HA.out.symm, 0, rfl⟩
        case round =>
          obtain ⟨k, rfl, hk, hany, q, rfl⟩ := hrel
          by_cases hlt : k < S.size
          · have hltz : (k : Int) < (S.size : Int) := by omega
            obtain ⟨x, hx⟩ : ∃ x, S[k]'hlt = x := ⟨_, rfl⟩
            have hdrop : S.data.toList.drop k = x :: S.data.toList.drop (k + 1) := by
              rw [Lib.size_eq] at hlt
              rw [List.drop_eq_getElem_cons hlt, ← hx]
              rfl
            have hst := hany.out
            rw [hdrop, List.any_cons] at hst
            obtain ⟨W, hW⟩ : ∃ W, (w.alloc (.cells #[.int .u8 (D.toNat : Int), .int .u8 (Q.toNat : Int)] 23)).drewN q = W := ⟨_, rfl⟩
            have hc0 : ((w.alloc (.cells #[.int .u8 (D.toNat : Int), .int .u8 (Q.toNat : Int)] 23)).drewN q).cell? ⟨w.heap.size, 0, none⟩ = some (.int .u8 (D.toNat : Int)) := by simp
            have hc1 : ((w.alloc (.cells #[.int .u8 (D.toNat : Int), .int .u8 (Q.toNat : Int)] 23)).drewN q).cell? ⟨w.heap.size, 1, none⟩ = some (.int .u8 (Q.toNat : Int)) := by simp
            have HST := hid hst
            clear hst hany hdrop hW W
            have hcase : (((x.toNat : Int) == (D.toNat : Int)) = true ∧ Hid (wantC D Q x = true)) ∨ (((x.toNat : Int) == (D.toNat : Int)) = false ∧ ((x.toNat : Int) == (Q.toNat : Int)) = true ∧ Hid (wantC D Q x = true)) ∨
                (((x.toNat : Int) == (D.toNat : Int)) = false ∧ ((x.toNat : Int) == (Q.toNat : Int)) = false ∧ ((x.toNat : Int) == 10) = true ∧ Hid (wantC D Q x = true)) ∨
                (((x.toNat : Int) == (D.toNat : Int)) = false ∧ ((x.toNat : Int) == (Q.toNat : Int)) = false ∧ ((x.toNat : Int) == 10) = false ∧ ((x.toNat : Int) == 13) = true ∧ Hid (wantC D Q x = true)) ∨
                (((x.toNat : Int) == (D.toNat : Int)) = false ∧ ((x.toNat : Int) == (Q.toNat : Int)) = false ∧ ((x.toNat : Int) == 10) = false ∧ ((x.toNat : Int) == 13) = false ∧ Hid (wantC D Q x = false)) := want_cases D Q x
            rcases hcase with ⟨c1, hw⟩ | ⟨c1, c2, hw⟩ | ⟨c1, c2, c3, hw⟩ | ⟨c1, c2, c3, c4, hw⟩ | ⟨c1, c2, c3, c4, hw⟩
            · have ht : ANS = true := by rw [← HST.out, hw.out, Bool.true_or]
              subst ht
              clear HA HST hw
              go_wp2
              go_quiet (fail)
              go_wp2
              go_ret
              exact ⟨rfl, below_dr (below_dr ((Below.refl _ w).alloc (Nat.le_refl _) _) q) nq⟩
            · have ht : ANS = true := by rw [← HST.out, hw.out, Bool.true_or]
              subst ht
              clear HA HST hw
              go_wp2
              go_quiet (fail)
              go_wp2
              go_ret
              exact ⟨rfl, below_dr (below_dr ((Below.refl _ w).alloc (Nat.le_refl _) _) q) nq⟩
            · have ht : ANS = true := by rw [← HST.out, hw.out, Bool.true_or]
              subst ht
              clear HA HST hw
              go_wp2
              go_quiet (fail)
              go_wp2
              go_ret
              exact ⟨rfl, below_dr (below_dr ((Below.refl _ w).alloc (Nat.le_refl _) _) q) nq⟩
            · have ht : ANS = true := by rw [← HST.out, hw.out, Bool.true_or]
              subst ht
              clear HA HST hw
              go_wp2
              go_quiet (fail)
              go_wp2
              go_ret
              exact ⟨rfl, below_dr (below_dr ((Below.refl _ w).alloc (Nat.le_refl _) _) q) nq⟩
            have hn : Hid ((S.data.toList.drop (k + 1)).any (wantC D Q) = ANS) := by have h := HST.out; rw [hw.out, Bool.false_or] at h; exact hid h
            clear HST hw
            go_wp2
            go_quiet (fail)
            go_wp2
            go_roundw
            case rel => exact ⟨k + 1, by go_num, by omega, hn, q + nq, rfl⟩
            case measure => simp [RowKit.intOf]; omega
          · have hltz : ¬ (k : Int) < (S.size : Int) := by omega
            have he := hany.out
            rw [List.drop_of_length_le (by rw [← Lib.size_eq]; omega)] at he
            have HE := hid he
            clear he hany
            go_wp2
            go_ret
            refine ⟨by rw [← HE.out]; rfl, ?_⟩
            exact below_dr ((Below.refl _ w).alloc (Nat.le_refl _) _) q
end Go.Proofs.YtcpkefjijinhiaaDoor
