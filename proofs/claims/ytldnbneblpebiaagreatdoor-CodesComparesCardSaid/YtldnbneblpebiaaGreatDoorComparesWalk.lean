/-
  The walk of CodesCompares: the program and the reference agree on Valid and Compare, at any two strings. Conditions: the library's variables hold what its text lays; the strings' sizes are sizes.
-/
import Derived.Test.YtldnbneblpebiaaGreatDoorAwake
import Derived.Test.YtldnbneblpebiaaGreatDoorR2
import Derived.Test.YtldnbneblpebiaaGreatDoorC3
set_option linter.unusedVariables false
namespace Go.Proofs.YtldnbneblpebiaaGreatDoor
open Go Go.Proofs Go.RowKit Go.Lib

set_option maxHeartbeats 4000000 in
set_option maxRecDepth 100000 in
theorem compares_any (a b : ByteArray) (ha : a.size ≤ 9223372036854775807) (hb : b.size ≤ 9223372036854775807) (w : World) (hE : Env w) :
    Calls Tryz.prog 3 #[.string a, .string b] w fun e w' => e = .returned (.bool true) ∧ Below w.heap.size w w' := by
  have cA := hid (awake_any w hE)
  have cV := hid (fun w => valid_any a w)
  have cW := hid (fun w => refValid_any a w)
  have cC := hid (fun w => compare_any a b ha hb w)
  have cR := hid (fun w => refCompare_any a b ha hb w)
  obtain ⟨V, hV⟩ : ∃ V, validC a.data.toList = V := ⟨_, rfl⟩
  obtain ⟨C, hC⟩ : ∃ C, cmpM (lst a) (lst b) = C := ⟨_, rfl⟩
  rw [hV] at cV cW
  rw [hC] at cC cR
  clear hV hC hE
  go_enter Tryz.func3, Tryz.ntmps3
  go_wp2_with fail
  refine cA.out.mono ?_
  rintro e w1 ⟨rfl, hb1⟩
  have HB1 := hid hb1
  clear hb1
  go_wp2_with fail
  refine (cV.out _).mono ?_
  rintro e w2 ⟨rfl, rfl⟩
  go_wp2_with fail
  refine (cW.out _).mono ?_
  rintro e w2 ⟨rfl, rfl⟩
  go_wp2_with fail
  refine (cC.out _).mono ?_
  rintro e w2 ⟨rfl, hb2⟩
  have HB2 := hid (HB1.out.trans (hb2.mono HB1.out.size))
  clear hb2
  go_wp2_with fail
  refine (cR.out _).mono ?_
  rintro e w3 ⟨rfl, q, hq⟩
  have HB3 : Hid (Below w.heap.size w w3) := hid (by rw [hq]; exact below_drewN HB2.out q)
  clear hq
  go_wp2
  go_ret
  exact ⟨by simp, HB3.out⟩
end Go.Proofs.YtldnbneblpebiaaGreatDoor
