/-
  The walk of the statement RecordsParses: it returns true. Conditions: the first variable of the package holds a number.
-/
import Derived.Test.YtcpkefjijinhiaaDoorAgree
import Derived.Test.YtcpkefjijinhiaaDoorAwake
import Derived.Deep.RegionLaw
set_option linter.unusedVariables false
namespace Go.Proofs.YtcpkefjijinhiaaDoor
open Go Go.Proofs Go.RowKit Go.Lib

/-- What is kept while the statement's calls run: the dialect's block, the memory below, the first variable. -/
structure Keep (w : World) (D Q : UInt8) (m : Int) (w' : World) : Prop where
  d0 : w'.cell? ⟨w.heap.size, 0, none⟩ = some (.int .u8 D.toNat)
  d1 : w'.cell? ⟨w.heap.size, 1, none⟩ = some (.int .u8 Q.toNat)
  b : Below w.heap.size w w'
  s : w.heap.size < w'.heap.size
  m0 : w'.cell? ⟨0, 0, none⟩ = some (.int .i64 m)
  s0 : 0 < w.heap.size
theorem Keep.next {w w' w'' : World} {D Q : UInt8} {m : Int} (h : Keep w D Q m w') (k : Below w'.heap.size w' w'') : Keep w D Q m w'' :=
  ⟨(k.cell (p := ⟨w.heap.size, 0, none⟩) h.s).trans h.d0, (k.cell (p := ⟨w.heap.size, 1, none⟩) h.s).trans h.d1, h.b.trans (k.mono (Nat.le_of_lt h.s)), Nat.lt_of_lt_of_le h.s k.size, (k.cell (p := ⟨0, 0, none⟩) (Nat.lt_trans h.s0 h.s)).trans h.m0, h.s0⟩

set_option maxHeartbeats 1000000 in
theorem parses_any (cF : FieldAll) (m : Int) (S : ByteArray) (D Q : UInt8) (w : World) (hm : w.cell? ⟨0, 0, none⟩ = some (.int .i64 m)) (hw0 : 0 < w.heap.size) :
    Calls Tryd.prog 3 #[.string S, dialV D Q] w fun e w' => e = .returned (.bool true) ∧ Below w.heap.size w w' := by
  have cA : ∀ w', Keep w D Q m w' → Calls Tryd.prog 9 #[] w' fun e w'' => e = .returned (.bool true) ∧ Keep w D Q m w'' := fun w' h =>
    (awake_any m w' h.m0 (Nat.lt_trans h.s0 h.s)).mono fun e w'' ⟨h1, h2⟩ => ⟨h1, h.next h2⟩
  have cV : ∀ w', Keep w D Q m w' → Calls Tryd.prog 10 #[dialV D Q] w' fun e w'' => e = .returned (.bool (validB D Q)) ∧ Keep w D Q m w'' := fun w' h =>
    (codeValid_any D Q w').mono fun e w'' ⟨h1, h2⟩ => ⟨h1, h.next h2⟩
  have cR : ∀ w', Keep w D Q m w' → Calls Tryd.prog 11 #[dialV D Q] w' fun e w'' => e = .returned (.bool (validB D Q)) ∧ Keep w D Q m w'' := fun w' h =>
    (refValid_any D Q w').mono fun e w'' ⟨h1, h2⟩ => ⟨h1, h.next h2⟩
  have cC : ∀ w', Keep w D Q m w' → Calls Tryd.prog 13 #[] w' fun e w'' => e = .returned (dialV 44 34) ∧ Keep w D Q m w'' := fun w' h =>
    (comma_any w').mono fun e w'' ⟨h1, h2⟩ => ⟨h1, h.next h2⟩
  have cG : ∀ w', Keep w D Q m w' → Calls Tryd.prog 12 #[.string S, dialV D Q] w' fun e w'' => e = .returned (.bool true) ∧ Keep w D Q m w'' := fun w' h =>
    (agree_any cF S D Q w').mono fun e w'' ⟨h1, h2⟩ => ⟨h1, h.next h2⟩
  have cH : ∀ w', Keep w D Q m w' → Calls Tryd.prog 12 #[.string S, dialV 44 34] w' fun e w'' => e = .returned (.bool true) ∧ Keep w D Q m w'' := fun w' h =>
    (agree_any cF S 44 34 w').mono fun e w'' ⟨h1, h2⟩ => ⟨h1, h.next h2⟩
  have hk : Keep w D Q m (w.alloc (.cells #[.int .u8 D.toNat, .int .u8 Q.toNat] 23)).drew := by
    have hb := Below.alloc (Below.refl w.heap.size w) (Nat.le_refl _) (.cells #[.int .u8 D.toNat, .int .u8 Q.toNat] 23)
    have hx : (w.alloc (.cells #[.int .u8 D.toNat, .int .u8 Q.toNat] 23)).heap[w.heap.size]? = some (.cells #[.int .u8 D.toNat, .int .u8 Q.toNat] 23 (0, 0)) := heap_alloc_new w _
    exact ⟨cell_at hx 0, cell_at hx 1, hb.trans (below_drewNg _ 1 _), by show w.heap.size < (w.alloc _).heap.size; simp, (hb.cell (p := ⟨0, 0, none⟩) hw0).trans hm, hw0⟩
  clear cF hm hw0
  unfold dialV at cV cR cG cC cH ⊢
  go_enter Tryd.func3, Tryd.ntmps3
  go_wp2_with fail
  have h0 := hk.d0
  have h1 := hk.d1
  generalize w.alloc (.cells #[.int .u8 D.toNat, .int .u8 Q.toNat] 23) = w1 at hk h0 h1 ⊢
  go_region_with (first
    | (go_at_call 9; refine (cA _ ?_).mono ?_; assumption; rintro e w' ⟨rfl, hk'⟩; have h0 := hk'.d0; have h1 := hk'.d1)
    | (go_at_call 10; refine (cV _ ?_).mono ?_; assumption; rintro e w' ⟨rfl, hk'⟩; have h0 := hk'.d0; have h1 := hk'.d1)
    | (go_at_call 11; refine (cR _ ?_).mono ?_; assumption; rintro e w' ⟨rfl, hk'⟩; have h0 := hk'.d0; have h1 := hk'.d1)
    | (go_at_call 13; refine (cC _ ?_).mono ?_; assumption; rintro e w' ⟨rfl, hk'⟩; have h0 := hk'.d0; have h1 := hk'.d1)
    | (go_at_call_of 12 D.toNat; refine (cG _ ?_).mono ?_; assumption; rintro e w' ⟨rfl, hk'⟩; have h0 := hk'.d0; have h1 := hk'.d1)
    | (go_at_call 12; refine (cH _ ?_).mono ?_; assumption; rintro e w' ⟨rfl, hk'⟩; have h0 := hk'.d0; have h1 := hk'.d1))
  all_goals go_wp2
  all_goals go_ret
  all_goals exact ⟨rfl, Keep.b (by assumption)⟩
end Go.Proofs.YtcpkefjijinhiaaDoor
