/-
  What the statements' dialect returns: a valid dialect. Conditions: the dice lie in memory.
-/
import Derived.Test.YtcpkefjijinhiaaDoorDialEnd
import Derived.Deep.RegionWith
set_option linter.unusedVariables false
namespace Go.Proofs.YtcpkefjijinhiaaDoor
open Go Go.Proofs Go.RowKit Go.Lib

set_option maxHeartbeats 4000000 in
set_option maxRecDepth 100000 in
theorem dialect_any (g c k : Nat) (A : Option Addr) (L : List Int) (w : World) (h : DiceAt w g A L c k) :
    Calls Tryd.prog 16 #[.pointer (some ⟨g, 0, none⟩)] w (DialP g c A L w) := by
  have hgl := h.lt
  have n0 : w.heap.size ≠ g := by omega
  have n1 : w.heap.size + 1 ≠ g := by omega
  have n2 : w.heap.size + 1 + 1 ≠ g := by omega
  have hk0 : DE w g c A L k w := ⟨h, Played.refl _ _ _⟩
  have c4 := fun (W : World) (h : DK w g c A L k W) => (next_at g c k A L 4 (by omega) W h.e.d).mono (R' := fun e w' => e = .returned (.int .i64 (rollV L k 4)) ∧ DK w g c A L (rollK L k) w' ∧ Rolled g W w') fun e w' h' => ⟨h'.1, h.next n0 h'.2.1 h'.2.2, h'.2.2⟩
  have c2 := fun (W : World) (h : DK w g c A L (rollK L k) W) => (next_at g c (rollK L k) A L 2 (by omega) W h.e.d).mono (R' := fun e w' => e = .returned (.int .i64 (rollV L (rollK L k) 2)) ∧ DK w g c A L (rollK L (rollK L k)) w' ∧ Rolled g W w') fun e w' h' => ⟨h'.1, h.next n0 h'.2.1 h'.2.2, h'.2.2⟩
  obtain ⟨a1, a2⟩ := rollV_range L k 4 (by omega)
  obtain ⟨b1, b2⟩ := rollV_range L (rollK L k) 2 (by omega)
  have hk1 : DK w g c A L k (w.alloc (.cells #[.int .u8 0, .int .u8 0] 23)) := ⟨hk0.alloc _, heap_alloc_new w _⟩
  generalize rollV L k 4 = r1 at c4 a1 a2
  generalize rollV L (rollK L k) 2 = r2 at c2 b1 b2
  generalize rollK L (rollK L k) = k2 at c2
  generalize rollK L k = k1 at c4 c2
  obtain ⟨m1, rfl⟩ : ∃ m : Nat, r1 = (m : Int) := ⟨r1.toNat, by omega⟩
  obtain ⟨m2, rfl⟩ : ∃ m : Nat, r2 = (m : Int) := ⟨r2.toNat, by omega⟩
  have hD : ∃ D : UInt8, (D.toNat = 44 ∨ D.toNat = 59 ∨ D.toNat = 124 ∨ D.toNat = 9) ∧ ([.int .u8 44, .int .u8 59, .int .u8 124, .int .u8 9] : List Value)[m1]? = some (.int .u8 (D.toNat : Int)) := by
    rcases (show m1 = 0 ∨ m1 = 1 ∨ m1 = 2 ∨ m1 = 3 by omega) with rfl | rfl | rfl | rfl
    · exact ⟨44, by decide, rfl⟩
    · exact ⟨59, by decide, rfl⟩
    · exact ⟨124, by decide, rfl⟩
    · exact ⟨9, by decide, rfl⟩
  have hQ : ∃ Q : UInt8, (Q.toNat = 34 ∨ Q.toNat = 39) ∧ ([.int .u8 34, .int .u8 39] : List Value)[m2]? = some (.int .u8 (Q.toNat : Int)) := by
    rcases (show m2 = 0 ∨ m2 = 1 by omega) with rfl | rfl
    · exact ⟨34, by decide, rfl⟩
    · exact ⟨39, by decide, rfl⟩
  obtain ⟨D, hDv, hD⟩ := hD
  obtain ⟨Q, hQv, hQ⟩ := hQ
  have HV : Hid (validB D Q = true) := hid (by
    unfold validB
    rcases hDv with h | h | h | h <;> rcases hQv with h' | h' <;> rw [h, h'] <;> rfl)
  have C4 := hid c4
  have C2 := hid c2
  have HK1 := hid hk1
  clear c4 c2 hk0 hk1 h hDv hQv
  go_enter Tryd.func16, Tryd.ntmps16
  go_wp2_with fail
  go_region_with (first
    | (go_at_call_of 31 (4 : Int); refine (C4.out _ ?_).mono ?_; (repeat (with_reducible first | exact HK1.out | assumption | refine DK.alloc ?_ _ | refine DK.drew ?_)); rintro e w' ⟨rfl, hk, hR⟩; have h10 := hR.cells (w.heap.size + 1) m1 n1; have h11 := hR.cells (w.heap.size + 1) m2 n1; have h20 := hR.cells (w.heap.size + 1 + 1) m1 n2; have h21 := hR.cells (w.heap.size + 1 + 1) m2 n2; have hs := hR.size; have z0 := hk.c0; have z1 := hk.c1; have f0 := hk.f 0; have f1 := hk.f 1; clear hR)
    | (go_at_call_of 31 (2 : Int); refine (C2.out _ ?_).mono ?_; (repeat (with_reducible first | exact HK1.out | assumption | refine DK.alloc ?_ _ | refine DK.drew ?_)); rintro e w' ⟨rfl, hk, hR⟩; have h10 := hR.cells (w.heap.size + 1) m1 n1; have h11 := hR.cells (w.heap.size + 1) m2 n1; have h20 := hR.cells (w.heap.size + 1 + 1) m1 n2; have h21 := hR.cells (w.heap.size + 1 + 1) m2 n2; have hs := hR.size; have z0 := hk.c0; have z1 := hk.c1; have f0 := hk.f 0; have f1 := hk.f 1; clear hR))
  all_goals
    go_wp2
    exact dial_end (k := k2) rfl rfl HV.out (by (repeat (with_reducible first | exact DF.mk' hk hgl | refine DF.alloc ?_ _ | refine DF.drew ?_)))
theorem dialAll : DialAll := fun g c k A L w h => dialect_any g c k A L w h
end Go.Proofs.YtcpkefjijinhiaaDoor
