/-
  What the reference's step and marked return for a slice of bytes. Condition: the slice's length is within its capacity.
-/
import Derived.Test.YtcjomjhaimlbmaaDoorRunes
import Derived.Deep.QuietTactic
import Derived.BigQuiet
namespace Go.Proofs.YtcjomjhaimlbmaaDoor
open Go Go.Proofs Go.RowKit Go.Lib

/-- What step returns. -/
def stepN (l : List UInt8) : Nat := if l = [] ∨ badAt l = true then 0 else (decodeL l).2
theorem decodeL_le4 (l : List UInt8) : (decodeL l).2 ≤ 4 := by
  rw [decodeL_N]
  unfold decodeN
  repeat' split
  all_goals simp

theorem BIn.take {w : World} {B : Nat} {A : Option Addr} {l : List UInt8} (h : BIn w B A l) (m : Nat) : BIn w B A (l.take m) := by
  rcases h with h | ⟨b, off, hA, hlt, hc⟩
  · subst h; exact .inl (by simp)
  · refine .inr ⟨b, off, hA, hlt, fun j u hu => hc j u ?_⟩
    rw [List.getElem?_take] at hu
    split at hu
    · exact hu
    · cases hu
theorem BIn.drop {w : World} {B : Nat} {b off : Nat} {l : List UInt8} (h : BIn w B (some ⟨b, off, none⟩) l) (m : Nat) : BIn w B (some ⟨b, off + m, none⟩) (l.drop m) := by
  rcases h with h | ⟨b', off', hA, hlt, hc⟩
  · subst h; exact .inl (by simp)
  · injection hA with hA
    injection hA with h1 h2 _
    subst h1 h2
    refine .inr ⟨b, off + m, rfl, hlt, fun j u hu => ?_⟩
    rw [List.getElem?_drop] at hu
    rw [Nat.add_assoc]
    exact hc _ u hu

set_option maxHeartbeats 1000000 in
theorem step_any (A : Option Addr) (l : List UInt8) (c : Nat) (hc : l.length ≤ c) (w : World) (hb : BIn w w.heap.size A l) :
    Calls Tryd.prog 23 #[.slice A l.length c] w fun e w' => e = .returned (.int .i64 (stepN l : Int)) ∧ Below w.heap.size w w' := by
  go_enter Tryd.func23, Tryd.ntmps23
  go_wp2
  go_loopw [3] (fun nv wr => ∃ m : Nat, nv = .int .i64 (m : Int) ∧ 1 ≤ m ∧ m ≤ 5 ∧ Below w.heap.size w wr ∧ (∀ j, 1 ≤ j → j < m → ¬ (badAt l = false ∧ (decodeL l).2 = j))) (fun nv _ => 5 - (RowKit.intOf nv).toNat)
  case atStart => exact ⟨1, rfl, Nat.le_refl _, by omega, Below.refl _ _, fun j h1 h2 => by omega⟩
  case round =>
    obtain ⟨m, rfl, hm1, hm5, hbw, hno⟩ := hrel
    by_cases hin : m ≤ 4 ∧ m ≤ l.length
    · obtain ⟨hm4, hml⟩ := hin
      have hne : l ≠ [] := by intro h; subst h; simp at hml; omega
      obtain ⟨b, off, rfl, _, _⟩ := hb.at_ (k := 0) (by omega)
      have hlen : (l.take m).length = m := by rw [List.length_take]; omega
      obtain ⟨S, hS⟩ : ∃ S : ByteArray, S.data.toList = l.take m := ⟨⟨(l.take m).toArray⟩, by simp⟩
      have hS2 : (⟨(l.take m).toArray⟩ : ByteArray) = S := by
        apply ByteArray.ext
        rw [← hS]
      have k0 := ((hb.below hbw).take m).convert (P := Tryd.prog) c 22 5 9 Tryd.underlying22 Tryd.underlying5 Tryd.underlying9
      rw [hlen, hS2] at k0
      obtain ⟨C, hC⟩ : ∃ C, (runeVals S.data.toList).toArray ++ Array.replicate (grownCap wr (runesL S.data.toList).length 0 21 - (runesL S.data.toList).length) (.int .i32 0) = C := ⟨_, rfl⟩
      have k1 := run_runes (P := Tryd.prog) wr 9 48 21 S Tryd.underlying9 Tryd.underlying48 Tryd.underlying21
      have hcell : ∀ j u, (runeVals S.data.toList)[j]? = some u → ((wr.alloc (.cells C 21)).drew).cell? ⟨wr.heap.size, j, none⟩ = some u := fun j u h => by rw [← hC]; exact cell_runes wr 21 _ _ j u h
      rw [hC, show wr.drew.alloc (.cells C 21) = (wr.alloc (.cells C 21)).drew from rfl] at k1
      have k2 := run_string_runes (P := Tryd.prog) ((wr.alloc (.cells C 21)).drew) 48 9 21 wr.heap.size (grownCap wr (runesL S.data.toList).length 0 21) S.data.toList Tryd.underlying48 Tryd.underlying21 Tryd.underlying9 hcell
      clear hcell hC hb hS2
      have hiff := step_iff l m hm1 hml
      rw [← hS] at hiff
      obtain ⟨N, hN⟩ : ∃ N, (runesL S.data.toList).length = N := ⟨_, rfl⟩
      obtain ⟨G, hG⟩ : ∃ G, grownCap wr (runesL S.data.toList).length 0 21 = G := ⟨_, rfl⟩
      obtain ⟨U, hU⟩ : ∃ U : ByteArray, (⟨(textU S.data.toList).toArray⟩ : ByteArray) = U := ⟨_, rfl⟩
      have hUt : U.toList = textU S.data.toList := by rw [Lib.toList_data, ← hU]
      have hSt : S.toList = S.data.toList := Lib.toList_data S
      rw [hG, hN] at k1 k2
      rw [hU] at k2
      rw [hN] at hiff
      have HIFF := hid hiff
      have HNO := hid hno
      have HUT := hid hUt
      have HST := hid hSt
      clear hG hN hU hlen hS hiff hno hUt hSt
      by_cases hgood : N = 1 ∧ textU S.data.toList = S.data.toList
      · obtain ⟨hN1, ht⟩ := hgood
        have hnb : ((N : Int) == 1) = true := by simp [hN1]
        have hss : (U.toList == S.toList) = true := by rw [HUT.out, HST.out, ht, BEq.rfl]
        have hg := HIFF.out.1 ⟨hN1, ht⟩
        have hst : stepN l = m := by unfold stepN; rw [if_neg (by rintro (h | h); exact hne h; rw [hg.1] at h; cases h)]; exact hg.2
        clear hN1 ht hg HIFF HUT HST
        have HS := hid hst
        clear hst
        go_wp2
        go_ret
        exact ⟨by rw [HS.out]; rfl, (hbw.alloc hbw.size _).drew⟩
      · have hno2 : Hid (∀ j, 1 ≤ j → j < m + 1 → ¬ (badAt l = false ∧ (decodeL l).2 = j)) := hid fun j h1 h2 h3 => by
          rcases Nat.lt_or_ge j m with h | h
          · exact HNO.out j h1 h h3
          · obtain rfl : j = m := by omega
            exact hgood (HIFF.out.2 h3)
        have hcase : (((N : Int) == 1) = false) ∨ (((N : Int) == 1) = true ∧ (U.toList == S.toList) = false) := by
          by_cases h1 : N = 1
          · refine .inr ⟨by simp [h1], ?_⟩
            rw [HUT.out, HST.out]
            exact beq_eq_false_iff_ne.2 (fun h => hgood ⟨h1, h⟩)
          · exact .inl (by simp; omega)
        clear hgood HIFF HUT HST HNO
        rcases hcase with hnb | ⟨hnb, hss⟩
        all_goals
          go_wp2
          go_roundw
          case rel => exact ⟨m + 1, by go_num, by omega, by omega, (hbw.alloc hbw.size _).drew, hno2.out⟩
          case measure => simp [RowKit.intOf]; omega
    · have hz : stepN l = 0 := by
        unfold stepN
        by_cases h : l = [] ∨ badAt l = true
        · rw [if_pos h]
        · exfalso
          have hne : l ≠ [] := fun h' => h (.inl h')
          have hg : badAt l = false := by
            cases hb' : badAt l with
            | false => rfl
            | true => exact absurd (.inr hb') h
          have h1 := decodeL_width l
          have h2 := decodeL_le l hne
          have h3 := decodeL_le4 l
          exact hno (decodeL l).2 h1 (by omega) ⟨hg, rfl⟩
      have HZ := hid hz
      clear hz hno hb
      by_cases h4 : m ≤ 4
      · have h5 : ¬ (m : Int) ≤ (l.length : Int) := by omega
        go_wp2
        go_ret
        exact ⟨by rw [HZ.out]; rfl, hbw⟩
      · have h5 : ¬ (m : Int) ≤ 4 := by omega
        go_wp2
        go_ret
        exact ⟨by rw [HZ.out]; rfl, hbw⟩

/-- What marked returns. -/
def markB (l : List UInt8) : Bool := decide (l.take 3 = mark3)
theorem markB_short (l : List UInt8) (h : l.length < 3) : markB l = false := by
  unfold markB
  apply decide_eq_false
  intro e
  have := congrArg List.length e
  simp [mark3] at this
  omega
theorem markB_long (l : List UInt8) (x y z : Nat) (h : 3 ≤ l.length) (hx : (l[0]'(by omega)).toNat = x) (hy : (l[1]'(by omega)).toNat = y) (hz : (l[2]'(by omega)).toNat = z) :
    markB l = (x == 239 && y == 187 && z == 191) := by
  match l, h with
  | a :: b :: c :: t, _ =>
    simp only [List.getElem_cons_zero, List.getElem_cons_succ] at hx hy hz
    subst hx hy hz
    unfold markB mark3
    rw [Bool.eq_iff_iff]
    simp only [List.take_succ_cons, List.take_zero, decide_eq_true_eq, List.cons.injEq, and_true, Bool.and_eq_true, beq_iff_eq, ← UInt8.toNat_inj]
    constructor
    · rintro ⟨h1, h2, h3⟩; exact ⟨⟨h1, h2⟩, h3⟩
    · rintro ⟨⟨h1, h2⟩, h3⟩; exact ⟨h1, h2, h3⟩

set_option maxHeartbeats 1000000 in
theorem marked_any (A : Option Addr) (l : List UInt8) (c : Nat) (w : World) (B : Nat) (hb : BIn w B A l) :
    Calls Tryd.prog 22 #[.slice A l.length c] w fun e w' => e = .returned (.bool (markB l)) ∧ w = w' := by
  by_cases h3 : 3 ≤ l.length
  · obtain ⟨b, off, rfl, _, hc0⟩ := hb.at_ (k := 0) (by omega)
    obtain ⟨b1, off1, e1, _, hc1⟩ := hb.at_ (k := 1) (by omega)
    obtain ⟨b2, off2, e2, _, hc2⟩ := hb.at_ (k := 2) (by omega)
    injection e1 with e1
    injection e1 with e1a e1b _
    injection e2 with e2
    injection e2 with e2a e2b _
    subst e1a e1b e2a e2b
    obtain ⟨x, hx⟩ : ∃ x, (l[0]'(by omega)).toNat = x := ⟨_, rfl⟩
    obtain ⟨y, hy⟩ : ∃ y, (l[1]'(by omega)).toNat = y := ⟨_, rfl⟩
    obtain ⟨z, hz⟩ : ∃ z, (l[2]'(by omega)).toNat = z := ⟨_, rfl⟩
    have hm := markB_long l x y z h3 hx hy hz
    rw [hx, Nat.add_zero] at hc0
    rw [hy] at hc1
    rw [hz] at hc2
    rw [hm]
    have h3z : (3 : Int) ≤ (l.length : Int) := by omega
    have h0z : (0 : Int) < (l.length : Int) := by omega
    have h1z : (1 : Int) < (l.length : Int) := by omega
    have h2z : (2 : Int) < (l.length : Int) := by omega
    clear hm hx hy hz hb
    by_cases hx : x = 239
    · subst hx
      by_cases hy : y = 187
      · subst hy
        by_cases hz : z = 191
        · subst hz
          go_enter Tryd.func22, Tryd.ntmps22
          go_wp2
          go_ret
          exact ⟨rfl, rfl⟩
        · have e : ((z : Int) == 191) = false := by simp; omega
          have e' : (z == 191) = false := by simp; omega
          rw [e']
          go_enter Tryd.func22, Tryd.ntmps22
          go_wp2
          go_ret
          exact ⟨rfl, rfl⟩
      · have e : ((y : Int) == 187) = false := by simp; omega
        have e' : (y == 187) = false := by simp; omega
        rw [e', Bool.and_false, Bool.false_and]
        go_enter Tryd.func22, Tryd.ntmps22
        go_wp2
        go_ret
        exact ⟨rfl, rfl⟩
    · have e : ((x : Int) == 239) = false := by simp; omega
      have e' : (x == 239) = false := by simp; omega
      rw [e', Bool.false_and, Bool.false_and]
      go_enter Tryd.func22, Tryd.ntmps22
      go_wp2
      go_ret
      exact ⟨rfl, rfl⟩
  · rw [markB_short l (by omega)]
    have h3z : ¬ (3 : Int) ≤ (l.length : Int) := by omega
    go_enter Tryd.func22, Tryd.ntmps22
    go_wp2
    go_ret
    exact ⟨rfl, rfl⟩
end Go.Proofs.YtcjomjhaimlbmaaDoor
