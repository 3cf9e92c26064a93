/-
  Whether the code's Parse and the reference's agree: they do. Conditions: none (the field's contract is a hypothesis).
-/
import Derived.Test.YtcpkefjijinhiaaDoorRParse
import Derived.Test.YtcpkefjijinhiaaDoorSameRecs
set_option linter.unusedVariables false
namespace Go.Proofs.YtcpkefjijinhiaaDoor
open Go Go.Proofs Go.RowKit Go.Lib

theorem recP_len (L : Str) (D Q : UInt8) : ∀ (n : Nat) (fs : List Fld) (a : Nat) (gs : List Fld) (x : Nat), recP L D Q n fs a = .ok gs x → gs.length ≤ n + fs.length
  | 0, fs, a, gs, x, h => by simp [recP] at h
  | n + 1, fs, a, gs, x, h => by
    unfold recP at h
    cases hf : fieldP L D Q a with
    | bad p y => rw [hf] at h; simp at h
    | ok f y =>
      rw [hf] at h
      simp only at h
      split at h
      · injection h with h1 _
        rw [← h1]
        simp
        omega
      · have := recP_len L D Q n _ _ gs x h
        simp at this
        omega
theorem parseP_len (L : Str) (D Q : UInt8) : ∀ (n a : Nat) (out : List Rec) (bad : List Prob), out.length ≤ 400 → (∀ r ∈ out, r.fields.length ≤ 12) →
    (parseP L D Q n a out bad).1.length ≤ 400 ∧ (parseP L D Q n a out bad).2.length ≤ bad.length + n ∧ ∀ r ∈ (parseP L D Q n a out bad).1, r.fields.length ≤ 12
  | 0, a, out, bad, h, hf => ⟨h, by simp [parseP], hf⟩
  | n + 1, a, out, bad, h, hf => by
    unfold parseP
    split
    · exact ⟨h, by simp, hf⟩
    · split
      · have := parseP_len L D Q n (nxt L a) out bad h hf
        exact ⟨this.1, by omega, this.2.2⟩
      · split
        · exact ⟨h, by simp, hf⟩
        · rename_i hne
          cases hr : recP L D Q 12 [] a with
          | ok fs x =>
            have hl := recP_len L D Q 12 [] a fs x hr
            simp at hl
            have := parseP_len L D Q n x (out ++ [⟨lineOf L a, fs⟩]) bad (by simp; omega) (by
              intro r hr'
              simp at hr'
              rcases hr' with hr' | rfl
              · exact hf r hr'
              · exact hl)
            exact ⟨this.1, Nat.le_trans this.2.1 (by omega), this.2.2⟩
          | bad p x =>
            have := parseP_len L D Q n x out (bad ++ [p]) h hf
            simp at this
            exact ⟨this.1, Nat.le_trans this.2.1 (by omega), by simpa using this.2.2⟩
theorem parseM_len (D Q : UInt8) (L : Str) : (parseM D Q L).1.length ≤ 400 ∧ (parseM D Q L).2.length ≤ 65537 ∧ ∀ r ∈ (parseM D Q L).1, r.fields.length ≤ 12 := by
  unfold parseM
  split
  · split
    · simp
    · have := parseP_len L D Q (L.length - 0 + 1) 0 [] [] (by simp) (by simp)
      unfold parseR
      simp at this ⊢
      exact ⟨this.1, by omega, this.2.2⟩
  · simp

/-- What the reference's field does, for every reader and dialect. -/
def FieldAll : Prop := ∀ (S : ByteArray) (D Q : UInt8) (g a : Nat) (w : World), validB D Q = true → RdrAt w g S a → Calls Tryd.prog 60 #[.pointer (some ⟨g, 0, none⟩), .agg #[.int .u8 D.toNat, .int .u8 Q.toNat]] w (FieldOut g S w (fieldP (lst S) D Q a))

set_option maxHeartbeats 1000000 in
theorem agree_any (cF : FieldAll) (S : ByteArray) (D Q : UInt8) (w : World) :
    Calls Tryd.prog 12 #[.string S, dialV D Q] w fun e w' => e = .returned (.bool true) ∧ Below w.heap.size w w' := by
  obtain ⟨b1, b2, b3⟩ := parseM_len D Q (lst S)
  have cC := fun w => codeParse_any S D Q w
  have cR := fun w => refParse_any S D Q w (cF S D Q)
  have hlr : (parseM D Q (lst S)).1.length ≤ 1000000 := by omega
  have hlp : (parseM D Q (lst S)).2.length ≤ 1000000 := by omega
  have hlf : ∀ r ∈ (parseM D Q (lst S)).1, r.fields.length ≤ 1000000 := fun r h => Nat.le_trans (b3 r h) (by omega)
  generalize parseM D Q (lst S) = R at cC cR hlr hlp hlf
  have HLF := hid hlf
  clear cF b1 b2 b3 hlf
  unfold dialV at cC cR ⊢
  go_enter Tryd.func12, Tryd.ntmps12
  have hb1 := Below.alloc (Below.refl w.heap.size w) (Nat.le_refl _) (.cells #[.int .u8 D.toNat, .int .u8 Q.toNat] 23)
  have hbx : (w.alloc (.cells #[.int .u8 D.toNat, .int .u8 Q.toNat] 23)).heap[w.heap.size]? = some (.cells #[.int .u8 D.toNat, .int .u8 Q.toNat] 23 (0, 0)) := heap_alloc_new w _
  have hs1 : w.heap.size < (w.alloc (.cells #[.int .u8 D.toNat, .int .u8 Q.toNat] 23)).heap.size := by simp
  have HB1 := hid hb1
  have HBX := hid hbx
  have HS1 := hid hs1
  clear hb1 hbx hs1
  go_wp2_with fail
  generalize w.alloc (.cells #[.int .u8 D.toNat, .int .u8 Q.toNat] 23) = w1 at HB1 HBX HS1 ⊢
  refine (cC _).mono ?_
  rintro e w2 ⟨hb2, v1, v2, rfl, hr2, hp2⟩
  have HBX2 := (hb2.block _ HS1.out).trans HBX.out
  have hs2 : w1.heap.size ≤ w2.heap.size := hb2.size
  have d0 := cell_at HBX2 0
  have d1 := cell_at HBX2 1
  simp only [List.getElem?_toArray, List.getElem?_cons_zero, List.getElem?_cons_succ] at d0 d1
  have HB2 := hid (HB1.out.trans (hb2.mono (by have := HS1.out; omega)))
  have HR2 := hid hr2
  have HP2 := hid hp2
  clear hb2 hr2 hp2 HB1 HBX HBX2
  go_wp2_with fail
  refine (cR _).mono ?_
  rintro e w3 ⟨hb3, u1, u2, rfl, hr3, hp3⟩
  have HR2' := hid (HR2.out.under hb3)
  have HP2' := hid (row_under HP2.out hb3)
  have HB3 := hid (HB2.out.trans (hb3.mono (by have := HS1.out; omega)))
  have HR3 := hid hr3
  have HP3 := hid hp3
  clear hb3 hr3 hp3 HR2 HP2 HB2 d0 d1 cC cR
  go_wp2_with fail
  refine (same_any _ _ R.1 _ _ _ hlr HLF.out HR2'.out HR3.out).mono ?_
  rintro e w4 ⟨rfl, q4, rfl⟩
  go_wp2_with fail
  refine (sameProblems_any _ _ R.2 _ _ _ hlp (row_drawn HP2'.out q4) (row_drawn HP3.out q4)).mono ?_
  rintro e w5 ⟨rfl, q5, rfl⟩
  go_wp2
  go_ret
  exact ⟨rfl, HB3.out.trans (below_drewNg _ _ _)⟩
end Go.Proofs.YtcpkefjijinhiaaDoor
