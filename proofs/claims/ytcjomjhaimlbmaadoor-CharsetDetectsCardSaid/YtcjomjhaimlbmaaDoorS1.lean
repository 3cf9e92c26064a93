/-
  What the small functions of charset do: greatestOf, above and the function that it returns. No conditions.
-/
import Derived.Test.YtcjomjhaimlbmaaDoorProg
import Derived.WalkKit
import Derived.WalkSpells
import Derived.WalkLawsBesides
namespace Go.Proofs.YtcjomjhaimlbmaaDoor
open Go Go.Proofs Go.RowKit

theorem info37 : (Tryd.prog.info? 37).map (fun i => (i.zero, i.size, i.bytes)) = some (some (.agg #[.int .i64 0, .int .i64 0]), 2, 16) := by kernel_rfl
theorem info5 : (Tryd.prog.info? 5).map (fun i => (i.zero, i.size, i.bytes)) = some (some (.int .u8 0), 1, 1) := by kernel_rfl

set_option maxHeartbeats 400000 in
theorem greatestOf_1 (w : World) : Calls Tryd.prog 18 #[.int .i64 1] w fun e w' => e = .returned (.tuple #[.int .i32 127, .bool true]) ∧ w = w' := by
  go_enter Tryd.func18, Tryd.ntmps18
  go_wp2
  go_ret2
  exact ⟨rfl, rfl⟩
set_option maxHeartbeats 400000 in
theorem greatestOf_2 (w : World) : Calls Tryd.prog 18 #[.int .i64 2] w fun e w' => e = .returned (.tuple #[.int .i32 255, .bool true]) ∧ w = w' := by
  go_enter Tryd.func18, Tryd.ntmps18
  go_wp2
  go_ret2
  exact ⟨rfl, rfl⟩
set_option maxHeartbeats 400000 in
theorem greatestOf_3 (w : World) : Calls Tryd.prog 18 #[.int .i64 3] w fun e w' => e = .returned (.tuple #[.int .i32 1114111, .bool true]) ∧ w = w' := by
  go_enter Tryd.func18, Tryd.ntmps18
  go_wp2
  go_ret2
  exact ⟨rfl, rfl⟩
set_option maxHeartbeats 400000 in
theorem greatestOf_no (k : Int) (h1 : (k == 1) = false) (h2 : (k == 2) = false) (h3 : (k == 3) = false) (w : World) : Calls Tryd.prog 18 #[.int .i64 k] w fun e w' => e = .returned (.tuple #[.int .i32 0, .bool false]) ∧ w = w' := by
  go_enter Tryd.func18, Tryd.ntmps18
  go_wp2
  go_ret2
  exact ⟨rfl, rfl⟩

set_option maxHeartbeats 400000 in
theorem above_any (g : Int) (w : World) : Calls Tryd.prog 21 #[.int .i32 g] w fun e w' => e = .returned (.func (.func 33) #[] #[.pointer (some ⟨w.heap.size, 0, none⟩)]) ∧ w.alloc (.cells #[.int .i32 g] 21) = w' := by
  go_enter Tryd.func21, Tryd.ntmps21
  go_wp2
  go_ret
  exact ⟨rfl, rfl⟩

set_option maxHeartbeats 400000 in
theorem beyond_any (r g : Int) (a : Nat) (w : World) (hc : w.cell? ⟨a, 0, none⟩ = some (.int .i32 g)) : Calls Tryd.prog 33 #[.int .i32 r, .pointer (some ⟨a, 0, none⟩)] w fun e w' => e = .returned (.bool (decide (g < r))) ∧ w = w' := by
  go_enter Tryd.func33, Tryd.ntmps33
  go_wp2
  go_ret
  exact ⟨rfl, rfl⟩
end Go.Proofs.YtcjomjhaimlbmaaDoor
