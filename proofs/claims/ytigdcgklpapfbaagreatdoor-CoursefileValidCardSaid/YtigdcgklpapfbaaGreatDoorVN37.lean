/-
  One field of a class: readField, and the closure that calls it. Conditions: the variables hold what their text lays; the field is below 2^32 bytes.
-/
import Derived.Test.YtigdcgklpapfbaaGreatDoorVN01
import Derived.Test.YtigdcgklpapfbaaGreatDoorVN02
import Derived.Test.YtigdcgklpapfbaaGreatDoorVN03
import Derived.Test.YtigdcgklpapfbaaGreatDoorVN04
import Derived.Test.YtigdcgklpapfbaaGreatDoorVN05
import Derived.Test.YtigdcgklpapfbaaGreatDoorVN06
import Derived.Test.YtigdcgklpapfbaaGreatDoorVN07
import Derived.Test.YtigdcgklpapfbaaGreatDoorVN08
import Derived.Test.YtigdcgklpapfbaaGreatDoorVN09
import Derived.Test.YtigdcgklpapfbaaGreatDoorVN10
import Derived.Test.YtigdcgklpapfbaaGreatDoorVN11
import Derived.Test.YtigdcgklpapfbaaGreatDoorVN12
import Derived.Test.YtigdcgklpapfbaaGreatDoorVN13
import Derived.Test.YtigdcgklpapfbaaGreatDoorVN14
import Derived.Test.YtigdcgklpapfbaaGreatDoorVN15
import Derived.Test.YtigdcgklpapfbaaGreatDoorVN16
import Derived.Test.YtigdcgklpapfbaaGreatDoorVN17
import Derived.Test.YtigdcgklpapfbaaGreatDoorVN18
import Derived.Test.YtigdcgklpapfbaaGreatDoorVN19
import Derived.Test.YtigdcgklpapfbaaGreatDoorVN21
import Derived.Test.YtigdcgklpapfbaaGreatDoorVN33
import Derived.Test.YtigdcgklpapfbaaGreatDoorVN34
import Derived.Test.YtigdcgklpapfbaaGreatDoorVN35
import Derived.Test.YtigdcgklpapfbaaGreatDoorVN36
import Derived.Test.YtigdcgklpapfbaaGreatDoorProg
import Derived.WalkKit
import Derived.WalkSpells
import Derived.WalkLawsBesides
import Derived.Lib.Hide
import Derived.Deep.QuietTactic
import Derived.BigQuiet
import Derived.Laws.Rows
import Derived.OwnWalk
import Derived.Lib.BufferWrite
import Derived.Lib.UnsafeStr
import Derived.Laws.IdiomStrings
import Derived.Laws.BytesArg
import Derived.Laws.BytesString
import Derived.Laws.OwnMore
import Derived.Lib.IndexLaws
import Derived.Lib.ItoaNum
import Derived.Lib.Atoi
import Derived.Laws.BitsAllLaws
import Derived.Laws.BitsLemmas
import Derived.Deep.MidRow
import Derived.Shelf.Strings.Builder1
import Derived.Shelf.Strings.Builder2
import Derived.Shelf.Strings.OnBuilder
import Derived.Shelf.Strings.Trim
import Derived.Shelf.Small.Bits
import Derived.Shelf.Small.Strs
import Derived.Shelf.Small.Wraps
import Derived.Shelf.Strings.BuilderF
import Derived.Shelf.Strings.BuilderK
import Derived.Shelf.Strings.Builder2Cap
import Derived.Shelf.Strconv.Atoi
import Derived.Shelf.Strconv.Itoa0
import Derived.Shelf.Strconv.Itoa1
import Derived.Shelf.LaysM
import Derived.Shelf.Strconv.Itoa2
import Derived.Shelf.Strconv.Itoa3
import Derived.Shelf.Strconv.AtoiErrFast
import Derived.Shelf.Strconv.ParseIntEmpty
import Derived.Shelf.Strconv.AtoiFail
import Derived.Shelf.Strconv.Clone
import Derived.Shelf.Strconv.SyntaxError
import Derived.Shelf.LaysC
import Derived.Shelf.Strconv.ToError
import Derived.Shelf.Strconv.AtoiErr
import Derived.Shelf.Strings.Search1
import Derived.Shelf.Strings.Search2
import Derived.Shelf.Strings.Search3
import Derived.Shelf.Strings.Cut
import Derived.Shelf.Strings.Shaped
import Derived.Shelf.Strings.Prefix
import Derived.Shelf.Strings.Runes
import Derived.Shelf.Strings.AsciiSet
import Derived.Shelf.Bits.Mul64
import Derived.Shelf.Strings.Repeat
import Derived.Shelf.Unicode.DecodeSlow
import Derived.Shelf.Strings.BuilderCap
import Derived.Shelf.Slices.Turned
import Derived.Ground.SlgfProg
import Derived.Shelf.SlicesE.IndexFunc
import Derived.Lib.AtoiErrMem
import Derived.Handy
import Derived.RangeFuncNested
import Derived.RangeFuncBound
import Derived.RangeFuncCalls
import Derived.RangeFuncLeaves
import Derived.Shelf.Abstract
import Derived.Shelf.RegionOpen
import Derived.OwnWalkIn
import Derived.Lib.Bytealg
import Derived.Lib.SlTrimSet
import Derived.Shelf.Strings.SlTrimAscii
import Derived.Laws.ResultCell
import Derived.RegionTactic
import Derived.Lib.Repeat
import Derived.Deep.RegionHeld3
import Derived.Lib.SlicesS
import Derived.TacticsInMore
import Derived.LoopNIn
import Derived.LoopIn
import Derived.Deep.DeepCutAuto
import Derived.Lib.Join
import Derived.Laws.Concat
import Derived.Maps.OwnSet
import Derived.Maps.Range
import Derived.Sort.EncStr
import Derived.Deep.RegionLaw
import Derived.Shelf.SlGeneric
import Derived.Shelf.Sort.Plain
import Derived.Shelf.Slices.In.SortNone
import Derived.Ground.NamesProg
import Derived.Sort.OwnSorted
import Derived.RangeFuncBox
import Derived.Sort.Grow
import Derived.Shelf.SlSortCmp.NoneTotal
import Derived.Ground.SlsfProg
import Derived.Shelf.SlicesQ.Contains
import Derived.Ground.SlgqProg
import Derived.StillTailTactics
import Derived.Laws.StructEq
set_option linter.unusedVariables false
namespace Go.Proofs.YtigdcgklpapfbaaGreatDoor.S10
open Go Go.Proofs Go.RowKit Go.Lib Go.Proofs.YtigdcgklpapfbaaGreatDoor

/-- What lies while a field is read: a grid, a class. -/
structure KX (W0 : World) (G R : Nat) (a : Array Value) (d s b m : Int) (W : World) : Prop where
  g : Box4 W G d s b m
  x : BoxC W R a
  b : Below W0.heap.size W0 W
theorem KX.next {W0 W W' : World} {G R : Nat} {a : Array Value} {d s b m : Int} (h : KX W0 G R a d s b m W) (k : Below W.heap.size W W') : KX W0 G R a d s b m W' := ⟨h.g.next k h.g.lt, h.x.next k, h.b.trans (k.mono h.b.size)⟩
theorem KX.len {W0 W : World} {G R : Nat} {r : ClassD} {q : ClassA} {d s b m : Int} (h : KX W0 G R (clsArr r q) d s b m W) : W.cell? ⟨R, 3, none⟩ = some (.int .i64 r.len) := by
  obtain ⟨_, _, _, h3, _⟩ := BoxC.cells h.x
  exact h3
theorem KX.stored {W0 W : World} {G R : Nat} {r : ClassD} {q : ClassA} {d s b m LN : Int} (h : KX W0 G R (clsArr r q) d s b m W) (hne : G ≠ R) (hl : r.len = LN) (v : Value) :
    (W.setCell ⟨R, 8, none⟩ v).cell? ⟨G, 0, none⟩ = some (.int .i64 d) ∧ (W.setCell ⟨R, 8, none⟩ v).cell? ⟨G, 1, none⟩ = some (.int .i64 s) ∧ (W.setCell ⟨R, 8, none⟩ v).cell? ⟨G, 2, none⟩ = some (.int .i64 b) ∧ (W.setCell ⟨R, 8, none⟩ v).cell? ⟨G, 3, none⟩ = some (.int .i64 m) ∧ (W.setCell ⟨R, 8, none⟩ v).cell? ⟨R, 3, none⟩ = some (.int .i64 LN) := by
  have kc : ∀ o : Nat, (W.setCell ⟨R, 8, none⟩ v).cell? ⟨G, o, none⟩ = W.cell? ⟨G, o, none⟩ := fun o => World.cell?_of_block (w := W) (Below.heap_setCell W ⟨R, 8, none⟩ v G hne)
  obtain ⟨_, _, _, h3, _⟩ := BoxC.cells (BoxC.put8 h.x v)
  subst hl
  exact ⟨(kc 0).trans h.g.c0, (kc 1).trans h.g.c1, (kc 2).trans h.g.c2, (kc 3).trans h.g.c3, h3⟩
section
variable (d s b m n : Int) (x : Str) (r : ClassD) (q : ClassA) (R : Nat) (W : World)
  (hX : BoxC W R (clsArr r q)) (hR : ClassIn W (fun k => R < k ∧ k < W.heap.size) r q)
include hX hR
set_option maxHeartbeats 8000000 in
set_option maxRecDepth 100000 in
theorem readField0 : Calls Tryz.prog 57 #[.pointer (some ⟨R, 0, none⟩), .int .i64 0, .string (ba x), .agg #[.int .i64 d, .int .i64 s, .int .i64 b, .int .i64 m], .int .i64 n] W (FieldOut d s b m n 0 x r R W) := by
  have hb0 : Below W.heap.size W (W.alloc (.cells #[.int .i64 d, .int .i64 s, .int .i64 b, .int .i64 m] 24)) := (Below.refl _ W).alloc (Nat.le_refl _) _
  have hs0 : (W.alloc (.cells #[.int .i64 d, .int .i64 s, .int .i64 b, .int .i64 m] 24)).heap.size = W.heap.size + 1 := by simp
  have hG := Box4.new W d s b m 24
  unfold FieldOut
  have cC := fun W => ccode_any (ba x) W
  rw [lst_ba] at cC
  obtain ⟨u, hu⟩ : ∃ u : Str, (if S3.validC x = true then x else []) = u := ⟨_, rfl⟩
  have hub : (if S3.validC x = true then ba x else ⟨#[]⟩) = ba u := by rw [← hu]; split <;> rfl
  obtain ⟨e0, he0⟩ : ∃ e0 : Int, (if S3.validC x = true then (0 : Int) else 10) = e0 := ⟨_, rfl⟩
  have hS : setF d s b m n 0 x r = ({ r with code := u }, e0) := by rw [← hu, ← he0]; simp only [setF]; split <;> rfl
  rw [hub, he0] at cC
  rw [hS]
  obtain ⟨z, hz⟩ : ∃ z, ba x = z := ⟨_, rfl⟩
  rw [hz] at cC ⊢
  clear hub hu he0 hS
  have CC := hid cC
  clear cC
  have HX := hid hX
  have HR := hid hR
  have HB := hid hb0
  have HS0 := hid hs0
  have hlt := hX.lt
  have HG := hid hG
  clear hX hR hG hb0 hs0
  go_enter Tryz.func57, Tryz.ntmps57
  go_wp2_with fail
  generalize W.alloc (.cells #[.int .i64 d, .int .i64 s, .int .i64 b, .int .i64 m] 24) = W1 at HB HG HS0 ⊢
  refine (CC.out W1).mono ?_
  rintro e w2 ⟨rfl, rfl⟩
  have hB2 := HB.out
  have HB2 := hid hB2
  have HX2 := hid (HX.out.below hB2 hlt)
  obtain ⟨y0, y1, y2, y3, y4, y5, y6, y7, y8⟩ := HX2.out.cells
  have hf := HX2.out.free 0
  clear hB2
  go_wp2
  go_ret
  have hg := put_grown HB2.out R 0 (.string (ba u))
  have k := ClassIn.past (j := 0) (v := .string (ba u)) HR.out HB2.out
  exact ⟨rfl, ⟨q, BoxC.put0 HX2.out _, { k with }⟩, hg⟩
set_option maxHeartbeats 8000000 in
set_option maxRecDepth 100000 in
theorem readField1 : Calls Tryz.prog 57 #[.pointer (some ⟨R, 0, none⟩), .int .i64 1, .string (ba x), .agg #[.int .i64 d, .int .i64 s, .int .i64 b, .int .i64 m], .int .i64 n] W (FieldOut d s b m n 1 x r R W) := by
  have hb0 : Below W.heap.size W (W.alloc (.cells #[.int .i64 d, .int .i64 s, .int .i64 b, .int .i64 m] 24)) := (Below.refl _ W).alloc (Nat.le_refl _) _
  have hs0 : (W.alloc (.cells #[.int .i64 d, .int .i64 s, .int .i64 b, .int .i64 m] 24)).heap.size = W.heap.size + 1 := by simp
  have hG := Box4.new W d s b m 24
  unfold FieldOut
  have cC := fun W => ccode_any (ba x) W
  rw [lst_ba] at cC
  obtain ⟨u, hu⟩ : ∃ u : Str, (if S3.validC x = true then x else []) = u := ⟨_, rfl⟩
  have hub : (if S3.validC x = true then ba x else ⟨#[]⟩) = ba u := by rw [← hu]; split <;> rfl
  obtain ⟨e0, he0⟩ : ∃ e0 : Int, (if S3.validC x = true then (0 : Int) else 10) = e0 := ⟨_, rfl⟩
  have hS : setF d s b m n 1 x r = ({ r with course := u }, e0) := by rw [← hu, ← he0]; simp only [setF]; split <;> rfl
  rw [hub, he0] at cC
  rw [hS]
  obtain ⟨z, hz⟩ : ∃ z, ba x = z := ⟨_, rfl⟩
  rw [hz] at cC ⊢
  clear hub hu he0 hS
  have CC := hid cC
  clear cC
  have HX := hid hX
  have HR := hid hR
  have HB := hid hb0
  have HS0 := hid hs0
  have hlt := hX.lt
  have HG := hid hG
  clear hX hR hG hb0 hs0
  go_enter Tryz.func57, Tryz.ntmps57
  go_wp2_with fail
  generalize W.alloc (.cells #[.int .i64 d, .int .i64 s, .int .i64 b, .int .i64 m] 24) = W1 at HB HG HS0 ⊢
  refine (CC.out W1).mono ?_
  rintro e w2 ⟨rfl, rfl⟩
  have hB2 := HB.out
  have HB2 := hid hB2
  have HX2 := hid (HX.out.below hB2 hlt)
  obtain ⟨y0, y1, y2, y3, y4, y5, y6, y7, y8⟩ := HX2.out.cells
  have hf := HX2.out.free 1
  clear hB2
  go_wp2
  go_ret
  have hg := put_grown HB2.out R 1 (.string (ba u))
  have k := ClassIn.past (j := 1) (v := .string (ba u)) HR.out HB2.out
  exact ⟨rfl, ⟨q, BoxC.put1 HX2.out _, { k with }⟩, hg⟩
set_option maxHeartbeats 8000000 in
set_option maxRecDepth 100000 in
theorem readField2 : Calls Tryz.prog 57 #[.pointer (some ⟨R, 0, none⟩), .int .i64 2, .string (ba x), .agg #[.int .i64 d, .int .i64 s, .int .i64 b, .int .i64 m], .int .i64 n] W (FieldOut d s b m n 2 x r R W) := by
  have hb0 : Below W.heap.size W (W.alloc (.cells #[.int .i64 d, .int .i64 s, .int .i64 b, .int .i64 m] 24)) := (Below.refl _ W).alloc (Nat.le_refl _) _
  have hs0 : (W.alloc (.cells #[.int .i64 d, .int .i64 s, .int .i64 b, .int .i64 m] 24)).heap.size = W.heap.size + 1 := by simp
  have hG := Box4.new W d s b m 24
  unfold FieldOut
  have cC := fun W => ccode_any (ba x) W
  rw [lst_ba] at cC
  obtain ⟨u, hu⟩ : ∃ u : Str, (if S3.validC x = true then x else []) = u := ⟨_, rfl⟩
  have hub : (if S3.validC x = true then ba x else ⟨#[]⟩) = ba u := by rw [← hu]; split <;> rfl
  obtain ⟨e0, he0⟩ : ∃ e0 : Int, (if S3.validC x = true then (0 : Int) else 10) = e0 := ⟨_, rfl⟩
  have hS : setF d s b m n 2 x r = ({ r with part := u }, e0) := by rw [← hu, ← he0]; simp only [setF]; split <;> rfl
  rw [hub, he0] at cC
  rw [hS]
  obtain ⟨z, hz⟩ : ∃ z, ba x = z := ⟨_, rfl⟩
  rw [hz] at cC ⊢
  clear hub hu he0 hS
  have CC := hid cC
  clear cC
  have HX := hid hX
  have HR := hid hR
  have HB := hid hb0
  have HS0 := hid hs0
  have hlt := hX.lt
  have HG := hid hG
  clear hX hR hG hb0 hs0
  go_enter Tryz.func57, Tryz.ntmps57
  go_wp2_with fail
  generalize W.alloc (.cells #[.int .i64 d, .int .i64 s, .int .i64 b, .int .i64 m] 24) = W1 at HB HG HS0 ⊢
  refine (CC.out W1).mono ?_
  rintro e w2 ⟨rfl, rfl⟩
  have hB2 := HB.out
  have HB2 := hid hB2
  have HX2 := hid (HX.out.below hB2 hlt)
  obtain ⟨y0, y1, y2, y3, y4, y5, y6, y7, y8⟩ := HX2.out.cells
  have hf := HX2.out.free 2
  clear hB2
  go_wp2
  go_ret
  have hg := put_grown HB2.out R 2 (.string (ba u))
  have k := ClassIn.past (j := 2) (v := .string (ba u)) HR.out HB2.out
  exact ⟨rfl, ⟨q, BoxC.put2 HX2.out _, { k with }⟩, hg⟩
set_option maxHeartbeats 8000000 in
set_option maxRecDepth 100000 in
theorem readField3 (hE : Env7 W) (hx : x.length < 4294967281) : Calls Tryz.prog 57 #[.pointer (some ⟨R, 0, none⟩), .int .i64 3, .string (ba x), .agg #[.int .i64 d, .int .i64 s, .int .i64 b, .int .i64 m], .int .i64 n] W (FieldOut d s b m n 3 x r R W) := by
  have hb0 : Below W.heap.size W (W.alloc (.cells #[.int .i64 d, .int .i64 s, .int .i64 b, .int .i64 m] 24)) := (Below.refl _ W).alloc (Nat.le_refl _) _
  have hs0 : (W.alloc (.cells #[.int .i64 d, .int .i64 s, .int .i64 b, .int .i64 m] 24)).heap.size = W.heap.size + 1 := by simp
  have hG := Box4.new W d s b m 24
  unfold FieldOut
  have cC := fun W h => (lst_ba x) ▸ readLength_any (ba x) (by rw [Lib.size_eq]; have : (ba x).data.toList.length = x.length := rfl; omega) d s b m W h
  obtain ⟨⟨u, e0⟩, hu⟩ : ∃ p, lenM s x = p := ⟨_, rfl⟩
  have hS : setF d s b m n 3 x r = ({ r with len := u }, e0) := by simp only [setF, hu]
  rw [hu] at cC
  rw [hS]
  obtain ⟨z, hz⟩ : ∃ z, ba x = z := ⟨_, rfl⟩
  rw [hz] at cC ⊢
  clear hS hu
  have CC := hid cC
  clear cC
  have HX := hid hX
  have HR := hid hR
  have HB := hid hb0
  have HS0 := hid hs0
  have hlt := hX.lt
  have HG := hid hG
  clear hX hR hG hb0 hs0
  obtain ⟨g0, g1, g2, g3, g4⟩ := HG.out
  go_enter Tryz.func57, Tryz.ntmps57
  go_wp2_with fail
  generalize W.alloc (.cells #[.int .i64 d, .int .i64 s, .int .i64 b, .int .i64 m] 24) = W1 at HB HG HS0 g0 g1 g2 g3 g4 ⊢
  refine (CC.out W1 (hE.e.below HB.out hE.e.size)).mono ?_
  rintro e w2 ⟨rfl, hb2⟩
  have hB2 := HB.out.trans (hb2.mono HB.out.size)
  clear hb2
  have HB2 := hid hB2
  have HX2 := hid (HX.out.below hB2 hlt)
  obtain ⟨y0, y1, y2, y3, y4, y5, y6, y7, y8⟩ := HX2.out.cells
  have hf := HX2.out.free 3
  clear hB2
  go_wp2
  go_ret
  have hg := put_grown HB2.out R 3 (.int .i64 u)
  have k := ClassIn.past (j := 3) (v := .int .i64 u) HR.out HB2.out
  exact ⟨rfl, ⟨q, BoxC.put3 HX2.out _, { k with }⟩, hg⟩
set_option maxHeartbeats 8000000 in
set_option maxRecDepth 100000 in
theorem readField4 (hE : Env7 W) (hx : x.length < 4294967281) : Calls Tryz.prog 57 #[.pointer (some ⟨R, 0, none⟩), .int .i64 4, .string (ba x), .agg #[.int .i64 d, .int .i64 s, .int .i64 b, .int .i64 m], .int .i64 n] W (FieldOut d s b m n 4 x r R W) := by
  have hb0 : Below W.heap.size W (W.alloc (.cells #[.int .i64 d, .int .i64 s, .int .i64 b, .int .i64 m] 24)) := (Below.refl _ W).alloc (Nat.le_refl _) _
  have hs0 : (W.alloc (.cells #[.int .i64 d, .int .i64 s, .int .i64 b, .int .i64 m] 24)).heap.size = W.heap.size + 1 := by simp
  have hG := Box4.new W d s b m 24
  unfold FieldOut
  have cC := fun W h => (lst_ba x) ▸ readPatterns_any n (ba x) (by rw [Lib.size_eq]; exact hx) W h
  obtain ⟨⟨u, e0⟩, hu⟩ : ∃ p, patsM n x = p := ⟨_, rfl⟩
  have hS : setF d s b m n 4 x r = ({ r with pats := u }, e0) := by simp only [setF, hu]
  rw [hu] at cC
  rw [hS]
  obtain ⟨z, hz⟩ : ∃ z, ba x = z := ⟨_, rfl⟩
  rw [hz] at cC ⊢
  clear hS hu
  have CC := hid cC
  clear cC
  have HX := hid hX
  have HR := hid hR
  have HB := hid hb0
  have HS0 := hid hs0
  have hlt := hX.lt
  have HG := hid hG
  clear hX hR hG hb0 hs0
  go_enter Tryz.func57, Tryz.ntmps57
  go_wp2_with fail
  generalize W.alloc (.cells #[.int .i64 d, .int .i64 s, .int .i64 b, .int .i64 m] 24) = W1 at HB HG HS0 ⊢
  refine (CC.out W1 (hE.e.below HB.out hE.e.size)).mono ?_
  rintro e w2 ⟨⟨v, rfl, hrow⟩, hb2⟩
  have hB2 := HB.out.trans (hb2.mono HB.out.size)
  obtain ⟨A, c, rfl, hc1, hc2, hin⟩ := FlatIn.ofRow hrow (by simp [intVals_len])
  have HIN := hid hin
  clear hb2 hrow hin
  have HB2 := hid hB2
  have HX2 := hid (HX.out.below hB2 hlt)
  obtain ⟨y0, y1, y2, y3, y4, y5, y6, y7, y8⟩ := HX2.out.cells
  have hf := HX2.out.free 4
  clear hB2
  go_wp2
  go_ret
  have hg := put_grown HB2.out R 4 (.slice A u.length c)
  have k := ClassIn.past (j := 4) (v := .slice A u.length c) HR.out HB2.out
  have hsz := HB.out.size
  refine ⟨rfl, ⟨{ q with aP := A, cP := c }, BoxC.put4 HX2.out _, { k with p := ?_, p1 := hc1, p2 := hc2 }⟩, hg⟩
  refine (HIN.out.kept (w' := w2.setCell ⟨R, 4, none⟩ (.slice A u.length c)) (fun b hb => ?_)).mono (fun b hb => ⟨by omega, ?_⟩)
  · exact Below.heap_setCell w2 ⟨R, 4, none⟩ _ b (fun e => by have : b = R := e; omega)
  · simpa [World.setCell] using hb.2
set_option maxHeartbeats 8000000 in
set_option maxRecDepth 100000 in
theorem readField5 (hE : Env7 W) : Calls Tryz.prog 57 #[.pointer (some ⟨R, 0, none⟩), .int .i64 5, .string (ba x), .agg #[.int .i64 d, .int .i64 s, .int .i64 b, .int .i64 m], .int .i64 n] W (FieldOut d s b m n 5 x r R W) := by
  have hb0 : Below W.heap.size W (W.alloc (.cells #[.int .i64 d, .int .i64 s, .int .i64 b, .int .i64 m] 24)) := (Below.refl _ W).alloc (Nat.le_refl _) _
  have hs0 : (W.alloc (.cells #[.int .i64 d, .int .i64 s, .int .i64 b, .int .i64 m] 24)).heap.size = W.heap.size + 1 := by simp
  have hG := Box4.new W d s b m 24
  unfold FieldOut
  have cC := fun W h => (lst_ba x) ▸ readSeats_any (ba x) W h
  obtain ⟨⟨u, e0⟩, hu⟩ : ∃ p, seatsF x = p := ⟨_, rfl⟩
  have hS : setF d s b m n 5 x r = ({ r with seats := u }, e0) := by simp only [setF, hu]
  rw [hu] at cC
  rw [hS]
  obtain ⟨z, hz⟩ : ∃ z, ba x = z := ⟨_, rfl⟩
  rw [hz] at cC ⊢
  clear hS hu
  have CC := hid cC
  clear cC
  have HX := hid hX
  have HR := hid hR
  have HB := hid hb0
  have HS0 := hid hs0
  have hlt := hX.lt
  have HG := hid hG
  clear hX hR hG hb0 hs0
  go_enter Tryz.func57, Tryz.ntmps57
  go_wp2_with fail
  generalize W.alloc (.cells #[.int .i64 d, .int .i64 s, .int .i64 b, .int .i64 m] 24) = W1 at HB HG HS0 ⊢
  refine (CC.out W1 (hE.e.below HB.out hE.e.size)).mono ?_
  rintro e w2 ⟨rfl, hb2⟩
  have hB2 := HB.out.trans (hb2.mono HB.out.size)
  clear hb2
  have HB2 := hid hB2
  have HX2 := hid (HX.out.below hB2 hlt)
  obtain ⟨y0, y1, y2, y3, y4, y5, y6, y7, y8⟩ := HX2.out.cells
  have hf := HX2.out.free 5
  clear hB2
  go_wp2
  go_ret
  have hg := put_grown HB2.out R 5 (.int .i64 u)
  have k := ClassIn.past (j := 5) (v := .int .i64 u) HR.out HB2.out
  exact ⟨rfl, ⟨q, BoxC.put5 HX2.out _, { k with }⟩, hg⟩
set_option maxHeartbeats 8000000 in
set_option maxRecDepth 100000 in
theorem readField6 (hE : Env7 W) (hx : x.length < 4294967281) : Calls Tryz.prog 57 #[.pointer (some ⟨R, 0, none⟩), .int .i64 6, .string (ba x), .agg #[.int .i64 d, .int .i64 s, .int .i64 b, .int .i64 m], .int .i64 n] W (FieldOut d s b m n 6 x r R W) := by
  have hb0 : Below W.heap.size W (W.alloc (.cells #[.int .i64 d, .int .i64 s, .int .i64 b, .int .i64 m] 24)) := (Below.refl _ W).alloc (Nat.le_refl _) _
  have hs0 : (W.alloc (.cells #[.int .i64 d, .int .i64 s, .int .i64 b, .int .i64 m] 24)).heap.size = W.heap.size + 1 := by simp
  have hG := Box4.new W d s b m 24
  unfold FieldOut
  have cC := fun W h => (lst_ba x) ▸ creadCodes_any (ba x) (by rw [Lib.size_eq]; exact hx) W h
  obtain ⟨⟨u, e0⟩, hu⟩ : ∃ p, featsM x = p := ⟨_, rfl⟩
  have hS : setF d s b m n 6 x r = ({ r with feats := u }, e0) := by simp only [setF, hu]
  rw [hu] at cC
  rw [hS]
  obtain ⟨z, hz⟩ : ∃ z, ba x = z := ⟨_, rfl⟩
  rw [hz] at cC ⊢
  clear hS hu
  have CC := hid cC
  clear cC
  have HX := hid hX
  have HR := hid hR
  have HB := hid hb0
  have HS0 := hid hs0
  have hlt := hX.lt
  have HG := hid hG
  clear hX hR hG hb0 hs0
  go_enter Tryz.func57, Tryz.ntmps57
  go_wp2_with fail
  generalize W.alloc (.cells #[.int .i64 d, .int .i64 s, .int .i64 b, .int .i64 m] 24) = W1 at HB HG HS0 ⊢
  refine (CC.out W1 (hE.s.below HB.out)).mono ?_
  rintro e w2 ⟨⟨v, rfl, hrow⟩, hb2⟩
  have hB2 := HB.out.trans (hb2.mono HB.out.size)
  have hrow' : StrRow w2 W1.heap.size v u := hrow
  obtain ⟨A, c, rfl, hc1, hc2, hin⟩ := hrow'.strsIn
  have HIN := hid hin
  clear hb2 hrow hin hrow'
  have HB2 := hid hB2
  have HX2 := hid (HX.out.below hB2 hlt)
  obtain ⟨y0, y1, y2, y3, y4, y5, y6, y7, y8⟩ := HX2.out.cells
  have hf := HX2.out.free 6
  clear hB2
  go_wp2
  go_ret
  have hg := put_grown HB2.out R 6 (.slice A u.length c)
  have k := ClassIn.past (j := 6) (v := .slice A u.length c) HR.out HB2.out
  have hsz := HB.out.size
  refine ⟨rfl, ⟨{ q with aF := A, cF := c }, BoxC.put6 HX2.out _, { k with f := ?_, f1 := hc1, f2 := hc2 }⟩, hg⟩
  refine (HIN.out.kept (w' := w2.setCell ⟨R, 6, none⟩ (.slice A u.length c)) (fun b hb => ?_)).mono (fun b hb => ⟨by omega, ?_⟩)
  · exact Below.heap_setCell w2 ⟨R, 6, none⟩ _ b (fun e => by have : b = R := e; omega)
  · simpa [World.setCell] using hb.2
set_option maxHeartbeats 8000000 in
set_option maxRecDepth 100000 in
theorem readField7 (hE : Env7 W) (hx : x.length < 4294967281) : Calls Tryz.prog 57 #[.pointer (some ⟨R, 0, none⟩), .int .i64 7, .string (ba x), .agg #[.int .i64 d, .int .i64 s, .int .i64 b, .int .i64 m], .int .i64 n] W (FieldOut d s b m n 7 x r R W) := by
  have hb0 : Below W.heap.size W (W.alloc (.cells #[.int .i64 d, .int .i64 s, .int .i64 b, .int .i64 m] 24)) := (Below.refl _ W).alloc (Nat.le_refl _) _
  have hs0 : (W.alloc (.cells #[.int .i64 d, .int .i64 s, .int .i64 b, .int .i64 m] 24)).heap.size = W.heap.size + 1 := by simp
  have hG := Box4.new W d s b m 24
  unfold FieldOut
  have cC := fun W h => (lst_ba x) ▸ creadCodes_any (ba x) (by rw [Lib.size_eq]; exact hx) W h
  obtain ⟨⟨u, e0⟩, hu⟩ : ∃ p, featsM x = p := ⟨_, rfl⟩
  have hS : setF d s b m n 7 x r = ({ r with staff := u }, e0) := by simp only [setF, hu]
  rw [hu] at cC
  rw [hS]
  obtain ⟨z, hz⟩ : ∃ z, ba x = z := ⟨_, rfl⟩
  rw [hz] at cC ⊢
  clear hS hu
  have CC := hid cC
  clear cC
  have HX := hid hX
  have HR := hid hR
  have HB := hid hb0
  have HS0 := hid hs0
  have hlt := hX.lt
  have HG := hid hG
  clear hX hR hG hb0 hs0
  go_enter Tryz.func57, Tryz.ntmps57
  go_wp2_with fail
  generalize W.alloc (.cells #[.int .i64 d, .int .i64 s, .int .i64 b, .int .i64 m] 24) = W1 at HB HG HS0 ⊢
  refine (CC.out W1 (hE.s.below HB.out)).mono ?_
  rintro e w2 ⟨⟨v, rfl, hrow⟩, hb2⟩
  have hB2 := HB.out.trans (hb2.mono HB.out.size)
  have hrow' : StrRow w2 W1.heap.size v u := hrow
  obtain ⟨A, c, rfl, hc1, hc2, hin⟩ := hrow'.strsIn
  have HIN := hid hin
  clear hb2 hrow hin hrow'
  have HB2 := hid hB2
  have HX2 := hid (HX.out.below hB2 hlt)
  obtain ⟨y0, y1, y2, y3, y4, y5, y6, y7, y8⟩ := HX2.out.cells
  have hf := HX2.out.free 7
  clear hB2
  go_wp2
  go_ret
  have hg := put_grown HB2.out R 7 (.slice A u.length c)
  have k := ClassIn.past (j := 7) (v := .slice A u.length c) HR.out HB2.out
  have hsz := HB.out.size
  refine ⟨rfl, ⟨{ q with aS := A, cS := c }, BoxC.put7 HX2.out _, { k with s := ?_, s1 := hc1, s2 := hc2 }⟩, hg⟩
  refine (HIN.out.kept (w' := w2.setCell ⟨R, 7, none⟩ (.slice A u.length c)) (fun b hb => ?_)).mono (fun b hb => ⟨by omega, ?_⟩)
  · exact Below.heap_setCell w2 ⟨R, 7, none⟩ _ b (fun e => by have : b = R := e; omega)
  · simpa [World.setCell] using hb.2
set_option maxHeartbeats 8000000 in
set_option maxRecDepth 100000 in
theorem readField8 (hE : Env7 W) (hx : x.length < 4294967281) : Calls Tryz.prog 57 #[.pointer (some ⟨R, 0, none⟩), .int .i64 8, .string (ba x), .agg #[.int .i64 d, .int .i64 s, .int .i64 b, .int .i64 m], .int .i64 n] W (FieldOut d s b m n 8 x r R W) := by
  have hb0 : Below W.heap.size W (W.alloc (.cells #[.int .i64 d, .int .i64 s, .int .i64 b, .int .i64 m] 24)) := (Below.refl _ W).alloc (Nat.le_refl _) _
  have hs0 : (W.alloc (.cells #[.int .i64 d, .int .i64 s, .int .i64 b, .int .i64 m] 24)).heap.size = W.heap.size + 1 := by simp
  have hG := Box4.new W d s b m 24
  unfold FieldOut
  have cC := fun W h => (lst_ba x) ▸ readStarts_any d s b m r.len (ba x) (by rw [Lib.size_eq]; exact hx) W h
  obtain ⟨⟨u, e0⟩, hu⟩ : ∃ p, startsM d s b m r.len x = p := ⟨_, rfl⟩
  have hS : setF d s b m n 8 x r = ({ r with starts := u }, e0) := by simp only [setF, hu]
  rw [hu] at cC
  rw [hS]
  obtain ⟨z, hz⟩ : ∃ z, ba x = z := ⟨_, rfl⟩
  rw [hz] at cC ⊢
  clear hS hu
  have CC := hid cC
  clear cC
  have HX := hid hX
  have HR := hid hR
  have HB := hid hb0
  have HS0 := hid hs0
  have hlt := hX.lt
  have HG := hid hG
  clear hX hR hG hb0 hs0
  obtain ⟨g0, g1, g2, g3, g4⟩ := HG.out
  have hk : KX W W.heap.size R (clsArr r q) d s b m (W.alloc (.cells #[.int .i64 d, .int .i64 s, .int .i64 b, .int .i64 m] 24)) := ⟨HG.out, HX.out.below HB.out hlt, HB.out⟩
  have hk' := hk
  have w3 := hk.len
  have HE := hid (fun (w' : World) (hb : Below W.heap.size W w') => hE.below hb (Nat.le_refl _))
  clear hE hk
  go_enter Tryz.func57, Tryz.ntmps57
  go_wp2
  generalize W.alloc (.cells #[.int .i64 d, .int .i64 s, .int .i64 b, .int .i64 m] 24) = W1 at HB HG HS0 g0 g1 g2 g3 g4 w3 hk' ⊢
  generalize hgb : W.heap.size = GB at hk' g0 g1 g2 g3 g4 ⊢
  have HGB := hid hgb
  clear hgb
  obtain ⟨LN, hLN⟩ : ∃ LN, r.len = LN := ⟨_, rfl⟩
  have HLN := hid hLN
  rw [hLN] at w3 CC
  clear hLN
  go_region_held3 (fun w' => w'.cell? ⟨GB, 0, none⟩ = some (.int .i64 d) ∧ w'.cell? ⟨GB, 1, none⟩ = some (.int .i64 s) ∧ w'.cell? ⟨GB, 2, none⟩ = some (.int .i64 b) ∧ w'.cell? ⟨GB, 3, none⟩ = some (.int .i64 m) ∧ w'.cell? ⟨R, 3, none⟩ = some (.int .i64 LN))
    (first | with_reducible exact ⟨hk'.g.c0, hk'.g.c1, hk'.g.c2, hk'.g.c3, HLN.out ▸ hk'.len⟩ | with_reducible exact ⟨(hk'.next (Below.refl _ _).drew).g.c0, (hk'.next (Below.refl _ _).drew).g.c1, (hk'.next (Below.refl _ _).drew).g.c2, (hk'.next (Below.refl _ _).drew).g.c3, HLN.out ▸ (hk'.next (Below.refl _ _).drew).len⟩ | exact hk'.stored (by have := HGB.out; omega) HLN.out _)
    (first
      | (go_at_call 89; (refine (CC.out _ (HE.out _ (hk'.next (Below.refl _ _).drew).b)).mono ?_); rintro e w2 ⟨⟨v, rfl, hrow⟩, hb2⟩; obtain ⟨A, c, rfl, hc1, hc2, hin⟩ := FlatIn.ofRow hrow (startVals_len u); have HIN := hid hin; have hk' := (hk'.next (Below.refl _ _).drew).next hb2; clear hrow hin; obtain ⟨y0, y1, y2, y3, y4, y5, y6, y7, y8⟩ := BoxC.cells hk'.x; have hf := hk'.x.free 8))
  all_goals
    go_wp2
    go_ret
    have HB2 := hk'.b
    have hg := put_grown HB2 R 8 (.slice A u.length c)
    have k := ClassIn.past (j := 8) (v := .slice A u.length c) HR.out HB2
    have hsz := HB.out.size
    have hdr : W1.drew.heap.size = W1.heap.size := rfl
    refine ⟨rfl, ⟨{ q with aT := A, cT := c }, BoxC.put8 hk'.x _, { k with t := ?_, t1 := hc1, t2 := hc2 }⟩, hg⟩
    refine (HIN.out.kept (w' := w2.setCell ⟨R, 8, none⟩ (.slice A u.length c)) (fun b hb => ?_)).mono (fun b hb => ⟨by omega, ?_⟩)
    · exact Below.heap_setCell w2 ⟨R, 8, none⟩ _ b (fun e => by have : b = R := e; omega)
    · simpa [World.setCell] using hb.2
theorem readField_any (hE : Env7 W) (hx : x.length < 4294967281) (i : Nat) (hi : i < 9) : Calls Tryz.prog 57 #[.pointer (some ⟨R, 0, none⟩), .int .i64 (i : Int), .string (ba x), .agg #[.int .i64 d, .int .i64 s, .int .i64 b, .int .i64 m], .int .i64 n] W (FieldOut d s b m n i x r R W) := by
  match i, hi with
  | 0, _ => exact readField0 d s b m n x r q R W hX hR
  | 1, _ => exact readField1 d s b m n x r q R W hX hR
  | 2, _ => exact readField2 d s b m n x r q R W hX hR
  | 3, _ => exact readField3 d s b m n x r q R W hX hR hE hx
  | 4, _ => exact readField4 d s b m n x r q R W hX hR hE hx
  | 5, _ => exact readField5 d s b m n x r q R W hX hR hE
  | 6, _ => exact readField6 d s b m n x r q R W hX hR hE hx
  | 7, _ => exact readField7 d s b m n x r q R W hX hR hE hx
  | 8, _ => exact readField8 d s b m n x r q R W hX hR hE hx
set_option maxHeartbeats 8000000 in
set_option maxRecDepth 100000 in
theorem read1_any (hE : Env7 W) (hx : x.length < 4294967281) (i : Nat) (hi : i < 9) (G N : Nat) (hG : Box4 W G d s b m) (hN : W.cell? ⟨N, 0, none⟩ = some (.int .i64 n)) :
    Calls Tryz.prog 56 (#[.pointer (some ⟨R, 0, none⟩), .int .i64 (i : Int), .string (ba x)] ++ #[.pointer (some ⟨G, 0, none⟩), .pointer (some ⟨N, 0, none⟩)]) W (FieldOut d s b m n i x r R W) := by
  have cF := hid (readField_any d s b m n x r q R W hX hR hE hx i hi)
  obtain ⟨g0, g1, g2, g3, g4⟩ := hG
  clear hX hR hE hx
  simp only [List.append_toArray, List.cons_append, List.nil_append]
  obtain ⟨z, hz⟩ : ∃ z, ba x = z := ⟨_, rfl⟩
  rw [hz] at cF ⊢
  obtain ⟨iz, hiz⟩ : ∃ iz : Int, (i : Int) = iz := ⟨_, rfl⟩
  rw [hiz] at cF ⊢
  go_enter Tryz.func56, Tryz.ntmps56
  go_wp2_with fail
  refine cF.out.mono ?_
  rintro e w2 h
  unfold FieldOut at h ⊢
  obtain ⟨rfl, h⟩ := h
  have H := hid h
  clear h
  go_wp2
  go_ret
  exact ⟨rfl, H.out⟩
end
end Go.Proofs.YtigdcgklpapfbaaGreatDoor.S10

