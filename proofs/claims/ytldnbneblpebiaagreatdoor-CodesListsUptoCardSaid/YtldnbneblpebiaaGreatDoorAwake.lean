/-
  The laws' sanity check of layer 3 holds. Conditions: the library's variables hold what its text lays.
-/
import Derived.Test.YtldnbneblpebiaaGreatDoorListW
set_option linter.unusedVariables false
namespace Go.Proofs.YtldnbneblpebiaaGreatDoor
open Go Go.Proofs Go.RowKit Go.Lib

theorem awake_list : listM [82, 48, 56, 46, 46, 82, 49, 48, 59, 88] = ([[82, 48, 56], [82, 48, 57], [82, 49, 48], [88]], 0) := by decide +kernel
theorem awake_cmp : cmpM [65, 57] [65, 49, 48] = -1 := by decide +kernel
theorem awake_v1 : validC [65, 45, 49] = true := by decide +kernel
theorem awake_v2 : validC [45, 65] = false := by decide +kernel

set_option maxHeartbeats 4000000 in
set_option maxRecDepth 100000 in
theorem awake_any (w : World) (hE : Env w) : Calls Tryz.prog 9 #[] w fun e w' => e = .returned (.bool true) ∧ Below w.heap.size w w' := by
  have cL := list_any ⟨#[82, 48, 56, 46, 46, 82, 49, 48, 59, 88]⟩ (by decide) w hE
  rw [show lst ⟨#[82, 48, 56, 46, 46, 82, 49, 48, 59, 88]⟩ = [82, 48, 56, 46, 46, 82, 49, 48, 59, 88] from rfl, awake_list] at cL
  go_enter Tryz.func9, Tryz.ntmps9
  go_wp2_with fail
  refine cL.mono ?_
  rintro e w1 ⟨⟨v, rfl, hrow⟩, hb1⟩
  obtain ⟨A, c, rfl, hc1, hc2, hin⟩ := hrow.strsIn
  obtain ⟨b, off, rfl, hP, h2⟩ := hin.at_ (k := 2) (by decide)
  have hcmp := fun w => compare_any ⟨#[65, 57]⟩ ⟨#[65, 49, 48]⟩ (by decide) (by decide) w
  have hv1 := fun w => valid_any ⟨#[65, 45, 49]⟩ w
  have hv2 := fun w => valid_any ⟨#[45, 65]⟩ w
  rw [show lst ⟨#[65, 57]⟩ = [65, 57] from rfl, show lst ⟨#[65, 49, 48]⟩ = [65, 49, 48] from rfl, awake_cmp] at hcmp
  rw [show (⟨#[65, 45, 49]⟩ : ByteArray).data.toList = [65, 45, 49] from rfl, awake_v1] at hv1
  rw [show (⟨#[45, 65]⟩ : ByteArray).data.toList = [45, 65] from rfl, awake_v2] at hv2
  have HB1 := hid hb1
  have h2' : w1.cell? ⟨b, off + 2, none⟩ = some (.string ⟨#[82, 49, 48]⟩) := h2
  have H2 := hid h2'
  have hc4 : 4 ≤ c := hc1
  clear hb1 cL hrow hin h2 h2' hc1
  go_wp2_with fail
  refine (hcmp _).mono ?_
  rintro e w2 ⟨rfl, hb2⟩
  have h2 : w2.cell? ⟨b, off + 2, none⟩ = some (.string ⟨#[82, 49, 48]⟩) := (hb2.cell (p := ⟨b, off + 2, none⟩) hP.2).trans H2.out
  have HB2 := hid (HB1.out.trans (hb2.mono HB1.out.size))
  clear hb2
  go_wp2_with fail
  refine (hv1 _).mono ?_
  rintro e w3 ⟨rfl, rfl⟩
  go_wp2_with fail
  refine (hv2 _).mono ?_
  rintro e w3 ⟨rfl, rfl⟩
  go_wp2
  go_ret
  exact ⟨rfl, HB2.out⟩
end Go.Proofs.YtldnbneblpebiaaGreatDoor
