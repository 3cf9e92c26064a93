/-
  DERIVED: THE SHELF's CONTRACTS AT THIS DUMP, IN PLAIN WORDS (tools/lay-plain.mjs out of 'TryzShelfBRaw.lean', which tools/lay-shelf.mjs wrote): THE SAME .. Conditions: as stated.
-/
import Derived.Shelf.SlSortCmp.NoneTotal
import Derived.Test.YtlgmanbilaminaaGreatDoorProg
namespace Go.Proofs
open Go.Shelf
def Tryz.insReqs_ren : Go.Shelf.Ren := ⟨fun | 20 => 118 | n => n, fun | 24 => 61 | 22 => 22 | 3 => 3 | 25 => 85 | 4 => 4 | 0 => 0 | n => n, fun | n => n⟩
theorem Tryz.insReqs : Go.Proofs.SlLaysF0.n20 Tryz.prog Tryz.insReqs_ren := {
  mixed := by kernel_rfl
  f20 := ⟨Tryz.f118.name, by decide, Tryz.func118.trans (congrArg some (by kernel_rfl))⟩
  t0 := Tryz.underlying0
  a0 := Tryz.isAgg0
  z0 := Tryz.sizeOf0
  v0 := Tryz.zeroValue0
  t3 := Tryz.underlying3
  a3 := Tryz.isAgg3
  z3 := Tryz.sizeOf3
  v3 := Tryz.zeroValue3
  t4 := Tryz.underlying4
  a4 := Tryz.isAgg4
  z4 := Tryz.sizeOf4
  v4 := Tryz.zeroValue4
  t22 := Tryz.underlying22
  a22 := Tryz.isAgg22
  z22 := Tryz.sizeOf22
  v22 := Tryz.zeroValue22
  t25 := Tryz.underlying85
  a25 := Tryz.isAgg85
  z25 := Tryz.sizeOf85
  v25 := Tryz.zeroValue85 }
end Go.Proofs
