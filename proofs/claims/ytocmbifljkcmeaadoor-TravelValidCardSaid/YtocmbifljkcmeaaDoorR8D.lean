/-
  The first error of a table: Valid of travel, Valid of the specification. Conditions: the table lies in memory.
-/
import Derived.Test.YtocmbifljkcmeaaDoorR8B
set_option linter.unusedVariables false
namespace Go.Proofs.YtocmbifljkcmeaaDoor
open Go Go.Proofs Go.RowKit Go.Lib

theorem StrsIn_take {w : World} {P : Nat → Prop} {A : Option Addr} {l : List Str} (h : S3.StrsIn w P A l) (k : Nat) : S3.StrsIn w P A (l.take k) := by
  rcases h with h | ⟨b, off, hA, hP, hc⟩
  · subst h; exact .inl (by simp)
  · refine .inr ⟨b, off, hA, hP, fun j s hj => hc j s ?_⟩
    rw [List.getElem?_take] at hj
    split at hj
    · exact hj
    · cases hj
/-- A table's box, of a call that began in w0. -/
structure KT (w0 : World) (v0 v1 : Value) (w : World) : Prop where
  x0 : w.cell? ⟨w0.heap.size, 0, none⟩ = some v0
  x1 : w.cell? ⟨w0.heap.size, 1, none⟩ = some v1
  lt : w0.heap.size < w.heap.size
  b : Below w0.heap.size w0 w
theorem KT.first (w : World) (v0 v1 : Value) (T : TypeId) : KT w v0 v1 (w.alloc (.cells #[v0, v1] T)) := by
  have e := heap_alloc_new w (.cells #[v0, v1] T)
  exact ⟨by rw [Lib.cell_of_heap e]; rfl, by rw [Lib.cell_of_heap e]; rfl, by simp, (Below.refl _ w).alloc (Nat.le_refl _) _⟩
theorem KT.next {w0 w w' : World} {v0 v1 : Value} (h : KT w0 v0 v1 w) (k : Below w.heap.size w w') : KT w0 v0 v1 w' :=
  ⟨(k.cell (p := ⟨w0.heap.size, 0, none⟩) h.lt).trans h.x0, (k.cell (p := ⟨w0.heap.size, 1, none⟩) h.lt).trans h.x1, Nat.lt_of_lt_of_le h.lt k.size, h.b.trans (k.mono h.b.size)⟩
theorem KT.drawn {w0 w : World} {v0 v1 : Value} (h : KT w0 v0 v1 w) (q : Nat) : KT w0 v0 v1 (w.drewN q) := h.next (S3.below_drewN (Below.refl _ _) q)
theorem drewN_stays' {w : World} {P : Nat → Prop} {A : Option Addr} {l : List Str} (h : S3.StrsIn w P A l) (q : Nat) : S3.StrsIn (w.drewN q) P A l := h.kept fun b _ => (Rolled.drawn (b + 1) w q).block b (by omega)

set_option maxHeartbeats 8000000 in
set_option maxRecDepth 100000 in
theorem tvalid_any (A S : Option Addr) (l : List Str) (R : List (List Int)) (c d : Nat) (w : World) (h : TravIn w (fun b => b < w.heap.size) A S (l, R)) (hc : l.length ≤ c) (hc2 : c ≤ 9223372036854775807) (h64 : R.length ≤ 9223372036854775807) :
    Calls Tryd.prog 10 #[.agg #[.slice A l.length c, .slice S R.length d]] w (Says (.int .i64 (validT (l, R))) w) := by
  unfold Says
  obtain ⟨ANS, hA⟩ : ∃ ANS, validT (l, R) = ANS := ⟨_, rfl⟩
  rw [hA]
  unfold validT at hA
  dsimp only at hA
  have hk := KT.first w (.slice A l.length c) (.slice S R.length d) 25
  have HH := hid h
  by_cases h8 : 8 < l.length
  · have h8z : (8 : Int) < (l.length : Int) := by omega
    rw [if_pos h8] at hA
    subst hA
    have HK := hid hk.b
    obtain ⟨x0, x1, _, _⟩ := hk
    clear h HH
    go_enter Tryd.func10, Tryd.ntmps10
    go_wp2
    go_ret
    exact ⟨rfl, HK.out⟩
  · have h8z : ¬ (8 : Int) < (l.length : Int) := by omega
    rw [if_neg h8] at hA
    have HS := hid (fun (w' : World) (hb : Below w.heap.size w w') => (h.below hb))
    have HK := hid hk
    have HA := hid hA
    have HE0 : Hid (bldE l (l.length - 0) 0 = bldM l) := hid rfl
    obtain ⟨E, hE⟩ : ∃ E, bldM l = E := ⟨_, rfl⟩
    rw [hE] at HA HE0
    obtain ⟨x0, x1, _, _⟩ := hk
    clear h hA HH hE
    go_enter Tryd.func10, Tryd.ntmps10
    go_wp2
    generalize w.alloc (.cells #[.slice A l.length c, .slice S R.length d] 25) = wb at HK x0 x1 ⊢
    go_loop [3, 4, 12] (fun _ _ iv => ∃ i : Nat, iv = .int .i64 (i : Int) ∧ i ≤ l.length ∧ Hid (bldE l (l.length - i) i = E)) (fun _ _ iv => l.length - (RowKit.intOf iv).toNat)
    case atStart => exact ⟨0, rfl, Nat.zero_le _, HE0⟩
    case round =>
      obtain ⟨i, rfl, hi, hE⟩ := hrel
      by_cases hlt : i < l.length
      · have hltz : (i : Int) < (l.length : Int) := by omega
        have hic : i ≤ c := by omega
        have hst := bldE_step l i hlt
        rw [hE.out] at hst
        have hin := (HS.out wb HK.out.b).b
        obtain ⟨b1, o1, rfl, _, y0⟩ := hin.at_ hlt
        have hg : l.getD i [] = l[i] := by simp [List.getD, List.getElem?_eq_getElem hlt]
        rw [hg] at hst
        have cV := fun w => S3.valid_any (ba l[i]) w
        rw [show (ba l[i]).data.toList = l[i] from rfl] at cV
        have cC := contains_any (some ⟨b1, o1, none⟩) (l.take i) c (ba l[i]) _ wb (StrsIn_take hin i) (by rw [List.length_take]; omega)
        rw [List.length_take, Nat.min_eq_left hi, lst_ba] at cC
        have e1 : S3.strV l[i] = .string (ba l[i]) := rfl
        rw [e1] at y0
        obtain ⟨V, hV⟩ : ∃ V, S3.validC l[i] = V := ⟨_, rfl⟩
        obtain ⟨D, hD⟩ : ∃ D, decide (l[i] ∈ l.take i) = D := ⟨_, rfl⟩
        rw [hV] at cV hst
        rw [hD] at cC
        obtain ⟨X, hX⟩ : ∃ X, ba l[i] = X := ⟨_, rfl⟩
        rw [hX] at cV cC y0
        have hdm : l[i] ∈ l.take i ↔ D = true := by rw [← hD]; simp
        simp only [hdm] at hst
        have CV := hid cV
        have CC := hid cC
        clear cV cC hV hD hX e1 hg hdm hin hE
        cases V with
        | false =>
          have HST : Hid (ANS = 10) := hid (by
            have h := HA.out
            rw [if_pos rfl] at hst
            subst hst
            rw [if_pos (by decide)] at h
            exact h.symm)
          clear hst
          go_wp2_with fail
          refine (CV.out _).mono ?_
          rintro e w' ⟨rfl, rfl⟩
          go_wp2
          go_ret
          exact ⟨by rw [HST.out]; rfl, HK.out.b⟩
        | true =>
          rw [if_neg (by simp)] at hst
          cases D with
          | true =>
            have HST : Hid (ANS = 11) := hid (by
              have h := HA.out
              rw [if_pos rfl] at hst
              subst hst
              rw [if_pos (by decide)] at h
              exact h.symm)
            clear hst
            go_wp2_with fail
            refine (CV.out _).mono ?_
            rintro e w' ⟨rfl, rfl⟩
            go_wp2_with fail
            refine CC.out.mono ?_
            rintro e w' ⟨rfl, rfl⟩
            go_wp2
            go_ret
            exact ⟨by rw [HST.out]; rfl, HK.out.b⟩
          | false =>
            rw [if_neg (by simp)] at hst
            have HST := hid hst.symm
            clear hst
            go_wp2_with fail
            refine (CV.out _).mono ?_
            rintro e w' ⟨rfl, rfl⟩
            go_wp2_with fail
            refine CC.out.mono ?_
            rintro e w' ⟨rfl, rfl⟩
            go_wp2
            go_round
            case rel => exact ⟨i + 1, by go_num, by omega, HST⟩
            case measure => simp [RowKit.intOf]; omega
      · have hltz : ¬ (i : Int) < (l.length : Int) := by omega
        have hst := bldE_end l i (by omega)
        rw [hE.out] at hst
        have hA := HA.out
        rw [if_neg (by omega)] at hA
        have cS := isSquare_any S R d l.length wb ((HS.out wb HK.out.b).s.mono fun b hb => Nat.lt_of_lt_of_le hb HK.out.b.size) h64 (by omega)
        unfold Says at cS
        have hE' : ∀ w', Below w.heap.size w w' → sqrB R l.length = true → Calls Tryd.prog 30 #[.slice S R.length d] w' fun e w'' => e = .returned (.bool (entsOk R l.length)) ∧ w' = w'' := fun w' hb hs => by
          have := areEntries_any S R d l.length _ w' (HS.out w' hb).s hs (by omega)
          rw [sqrB_len hs]
          exact this
        obtain ⟨Q, hQ⟩ : ∃ Q, sqrB R l.length = Q := ⟨_, rfl⟩
        rw [hQ] at cS hE' hA
        obtain ⟨O, hO⟩ : ∃ O, entsOk R l.length = O := ⟨_, rfl⟩
        rw [hO] at hE' hA
        have CS := hid cS
        have CE := hid hE'
        clear cS hE' hQ hO hst hE
        cases Q with
        | false =>
          rw [if_pos rfl] at hA
          subst hA
          go_wp2_with fail
          refine CS.out.mono ?_
          rintro e w1 ⟨rfl, hb⟩
          have HB := hid (HK.out.next hb).b
          clear hb
          go_wp2
          go_ret
          exact ⟨rfl, HB.out⟩
        | true =>
          rw [if_neg (by simp)] at hA
          cases O with
          | false =>
            rw [if_pos rfl] at hA
            subst hA
            go_wp2_with fail
            refine CS.out.mono ?_
            rintro e w1 ⟨rfl, hb⟩
            have hk1 := HK.out.next hb
            have HK1 := hid hk1
            have CE1 := hid (CE.out w1 hk1.b (by first | trivial | rfl))
            clear hb x0 x1
            obtain ⟨x0, x1, _, _⟩ := hk1
            go_wp2_with fail
            refine CE1.out.mono ?_
            rintro e w' ⟨rfl, rfl⟩
            go_wp2
            go_ret
            exact ⟨rfl, HK1.out.b⟩
          | true =>
            rw [if_neg (by simp)] at hA
            subst hA
            go_wp2_with fail
            refine CS.out.mono ?_
            rintro e w1 ⟨rfl, hb⟩
            have hk1 := HK.out.next hb
            have HK1 := hid hk1
            have CE1 := hid (CE.out w1 hk1.b (by first | trivial | rfl))
            clear hb x0 x1
            obtain ⟨x0, x1, _, _⟩ := hk1
            go_wp2_with fail
            refine CE1.out.mono ?_
            rintro e w' ⟨rfl, rfl⟩
            go_wp2
            go_ret
            exact ⟨rfl, HK1.out.b⟩
end Go.Proofs.YtocmbifljkcmeaaDoor
