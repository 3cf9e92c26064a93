/-
  A way more in a network: add of travel. Conditions: the network's rows are the call's own, it has at most 8 buildings.
  A way more in a network: the walk of add of travel. Conditions: the network's rows are the call's own, it has at most 8 buildings.
-/
import Derived.Test.YtocmbifljkcmeaaDoorTN01
import Derived.Test.YtocmbifljkcmeaaDoorTN02
import Derived.Test.YtocmbifljkcmeaaDoorTN03
import Derived.Test.YtocmbifljkcmeaaDoorTN04
import Derived.Test.YtocmbifljkcmeaaDoorTN05
import Derived.Test.YtocmbifljkcmeaaDoorTN07
import Derived.Test.YtocmbifljkcmeaaDoorProg
import Derived.WalkKit
import Derived.WalkSpells
import Derived.WalkLawsBesides
import Derived.Lib.Hide
import Derived.Deep.QuietTactic
import Derived.BigQuiet
import Derived.Laws.Rows
import Derived.OwnWalk
import Derived.Lib.BufferWrite
import Derived.Lib.UnsafeStr
import Derived.Laws.IdiomStrings
import Derived.Laws.BytesArg
import Derived.Laws.BytesString
import Derived.Laws.OwnMore
import Derived.Lib.IndexLaws
import Derived.Lib.ItoaNum
import Derived.Lib.Atoi
import Derived.Lib.Bytealg
import Derived.Handy
import Derived.Laws.ResultCell
import Derived.RegionTactic
import Derived.Deep.DeepCutAuto
import Derived.Deep.CutBlock
import Derived.Deep.RegionHeld3
import Derived.Deep.RegionLaw
import Derived.Deep.RegionWith
import Derived.Deep.AppendLies
import Derived.Maps.AppendAt
import Derived.StillTailTactics
import Derived.Shelf.Abstract
import Derived.Lib.SlTrimSet
import Derived.Shelf.Strconv.Atoi
import Derived.Shelf.Strconv.Itoa0
import Derived.Shelf.Strconv.Itoa1
import Derived.Shelf.LaysM
import Derived.Shelf.Strconv.Itoa2
import Derived.Shelf.Strconv.Itoa3
import Derived.Shelf.Strconv.AtoiErrFast
import Derived.Shelf.Strconv.ParseIntEmpty
import Derived.Shelf.Strconv.AtoiFail
import Derived.Shelf.Strconv.Clone
import Derived.Shelf.Strconv.SyntaxError
import Derived.Shelf.LaysC
import Derived.Shelf.Strconv.ToError
import Derived.Shelf.Strconv.AtoiErr
import Derived.Shelf.Bits.Mul64
import Derived.Shelf.Slices.Turned
import Derived.Lib.AtoiErrMem
import Derived.ArgAppend
import Derived.Deep.DeepAppendRoom
import Derived.Lib.SliceRun
import Derived.RangeFuncBox
import Derived.Deep.RegionLawGrows
set_option linter.unusedVariables false
namespace Go.Proofs.YtocmbifljkcmeaaDoor
open Go Go.Proofs Go.RowKit Go.Lib

theorem Box2.put0 {w : World} {B : Nat} {T : TypeId} {v0 v1 : Value} (h : Box2 w B T v0 v1) (u : Value) : Box2 (w.setCell ⟨B, 0, none⟩ u) B T u v1 := ⟨by rw [heap_setCell_same w B 0 _ _ u h.h]; rfl⟩
/-- Nothing has turned but the blocks with S. -/
structure Past (S : Nat → Prop) (w w' : World) : Prop where
  os : w'.os = w.os
  tape : w'.tape = w.tape
  output : w'.output = w.output
  size : w.heap.size ≤ w'.heap.size
  block : ∀ k, k < w.heap.size → ¬ S k → w'.heap[k]? = w.heap[k]?
section
variable {S S' : Nat → Prop} {w w' w'' : World} {B : Nat}
theorem Past.refl (S : Nat → Prop) (w : World) : Past S w w := ⟨rfl, rfl, rfl, Nat.le_refl _, fun _ _ _ => rfl⟩
theorem Past.trans (h : Past S w w') (k : Past S w' w'') : Past S w w'' := ⟨k.os.trans h.os, k.tape.trans h.tape, k.output.trans h.output, Nat.le_trans h.size k.size, fun i hi hs => (k.block i (Nat.lt_of_lt_of_le hi h.size) hs).trans (h.block i hi hs)⟩
theorem Past.mono (h : Past S w w') (hS : ∀ k, S k → S' k) : Past S' w w' := ⟨h.os, h.tape, h.output, h.size, fun k hk hn => h.block k hk (fun e => hn (hS k e))⟩
theorem Past.ofBelow (h : Below w.heap.size w w') : Past S w w' := ⟨h.os, h.tape, h.output, h.size, fun k hk _ => h.block k hk⟩
theorem Past.grown (h : Past S w w') {row : Option Nat} (hg : w'.grownBy w'' row) (hr : ∀ k, row = some k → k < w.heap.size → S k) : Past S w w'' :=
  ⟨hg.os.trans h.os, hg.tape.trans h.tape, hg.output.trans h.output, Nat.le_trans h.size hg.size, fun k hk hn => (hg.block k (Nat.lt_of_lt_of_le hk h.size) (fun e => hn (hr k e.symm hk))).trans (h.block k hk hn)⟩
theorem Past.set (h : Past S w w') (p : Addr) (v : Value) (hp : p.block < w.heap.size → S p.block) : Past S w (w'.setCell p v) :=
  ⟨h.os, h.tape, h.output, Nat.le_trans h.size (by simp), fun k hk hn => (Below.heap_setCell w' p v k (fun e => hn (e ▸ hp (e ▸ hk)))).trans (h.block k hk hn)⟩
theorem Past.below (h : Past S w w') (hS : ∀ k, S k → B ≤ k) (hB : B ≤ w.heap.size) : Below B w w' := ⟨h.os, h.tape, h.output, h.size, fun k hk => h.block k (by omega) (fun e => by have := hS k e; omega)⟩
end
theorem Past.setM {w w' : World} {M : Nat} (h : Past (fun k => k = M) w w') (j : Nat) (v : Value) : Past (fun k => k = M) w (w'.setCell ⟨M, j, none⟩ v) := h.set ⟨M, j, none⟩ v (fun _ => rfl)
theorem row_past {S : Nat → Prop} {w w' : World} {B e z n : Nat} {v : Value} {xs : List Value} (h : w.ownsRow B e z v n xs) (k : Past S w w') (hS : ∀ g, v.ownBlock = some g → ¬ S g) : w'.ownsRow B e z v n xs := by
  refine ⟨h.1, ?_⟩
  rcases h.2 with h2 | ⟨g, cap, cur, rfl, hb, hg, rest⟩
  · exact .inl h2
  · exact .inr ⟨g, cap, cur, rfl, hb, (k.block g (Array.getElem?_eq_some_iff.1 hg).1 (hS g rfl)).trans hg, rest⟩
theorem row_kind8 {w : World} {B e z k : Nat} {v : Value} {xs : List Value} (h : w.ownsRow B e z v k xs) (g : Nat) (hg : v.ownBlock = some g) : ∃ c, w.heap[g]? = some (.cells c e (0, 0)) := by
  rcases h.2 with ⟨rfl, _⟩ | ⟨g', cap, cur, rfl, _, hh, _⟩
  · simp [Value.ownBlock] at hg
  · simp only [Value.ownBlock, Option.some.injEq] at hg
    subst hg
    exact ⟨cur, hh⟩
theorem kinds_ne8 {W : World} {B B' e e' z z' n n' : Nat} {v v' : Value} {xs xs' : List Value} (h : W.ownsRow B e z v n xs) (h' : W.ownsRow B' e' z' v' n' xs') (hne : e ≠ e') : ∀ g, v.ownBlock = some g → v'.ownBlock ≠ some g := by
  intro g hg e0
  obtain ⟨c, hc⟩ := row_kind8 h g hg
  obtain ⟨c', hc'⟩ := row_kind8 h' g e0
  rw [hc] at hc'
  injection hc' with h1
  injection h1 with _ h2
  exact hne h2
/-- The network in block M: its ways, its buildings, in rows of the call's own. -/
structure NetIn (w : World) (M B : Nat) (N : NetD) (v0 v1 : Value) : Prop where
  box : Box2 w M 66 v0 v1
  ways : WayRow w B 51 v0 N.1
  strs : S3.StrRow w B v1 N.2
/-- The blocks that a network may turn. -/
def NetS (M : Nat) (v0 v1 : Value) (k : Nat) : Prop := k = M ∨ v0.ownBlock = some k ∨ v1.ownBlock = some k
def Moved (w : World) (v v' : Value) : Prop := v'.ownBlock = v.ownBlock ∨ ∃ k, v'.ownBlock = some k ∧ w.heap.size ≤ k
/-- What add leaves behind. -/
def AddOut8 (M B : Nat) (N : NetD) (r : WayD) (v0 v1 : Value) (w : World) (e : Ending) (w' : World) : Prop :=
  e = .returned (.int .i64 (addW N r).2) ∧ ∃ v0' v1', NetIn w' M B (addW N r).1 v0' v1' ∧ Past (NetS M v0 v1) w w' ∧ Moved w v0 v0' ∧ Moved w v1 v1'
/-- What holds once the buildings are counted. -/
structure AddK (M B : Nat) (N : NetD) (r : WayD) (v0 v1 vb : Value) (w wx : World) : Prop where
  net : NetIn wx M B N v0 v1
  way : WayBox wx w.heap.size 51 r
  new : S3.StrRow wx B vb (names2 N.2 r)
  past : Past (NetS M v0 v1) w wx
  mv : Moved w v1 vb
theorem AddK.next {M B : Nat} {N : NetD} {r : WayD} {v0 v1 vb : Value} {w wx wy : World} (h : AddK M B N r v0 v1 vb w wx) (k : Below wx.heap.size wx wy) : AddK M B N r v0 v1 vb w wy :=
  ⟨⟨h.net.box.next k, row_under h.net.ways k, row_under h.net.strs k⟩, h.way.next k, row_under h.new k, h.past.trans (Past.ofBelow k), h.mv⟩
theorem row_drawn8 {w : World} {B e z n : Nat} {v : Value} {xs : List Value} (h : w.ownsRow B e z v n xs) : (w.drew).ownsRow B e z v n xs := row_under h ((Below.refl _ w).drew)
theorem NetIn.grown {w1 w2 : World} {M B : Nat} {N : NetD} {v0 v1 : Value} {X : Nat} {T : TypeId} {x0 x1 x2 : Value} (hn : NetIn w1 M B N v0 v1) (hx : Box3 w1 X T x0 x1 x2) {row : Option Nat} (hg : w1.grownBy w2 row) (hM : row ≠ some M) (hX : row ≠ some X)
    (h0 : ∀ g, v0.ownBlock = some g → row ≠ some g) (hs : S3.StrRow w2 B v1 N.2) : NetIn w2 M B N v0 v1 ∧ Box3 w2 X T x0 x1 x2 := by
  refine ⟨⟨hn.box.kept (hg.block M hn.box.lt (fun e => hM e.symm)), World.ownsRow.kept hn.ways hg ?_, hs⟩, hx.kept (hg.block X hx.lt (fun e => hX e.symm))⟩
  cases hv : v0.ownBlock with
  | none => exact .inl rfl
  | some g => exact .inr (fun e => h0 g hv e.symm)
theorem inc_vals (l : List Str) (s : Str) : ∃ ys, S3.strVals (inc l s) = S3.strVals l ++ ys := by
  unfold inc
  split
  · exact ⟨[], by simp⟩
  · exact ⟨S3.strVals [s], by unfold S3.strVals; rw [List.map_append]⟩
/-- The first building is counted. -/
theorem add_one {w w1 w2 : World} {M B : Nat} {N : NetD} {r : WayD} {v0 v1 : Value} (hn : NetIn w1 M B N v0 v1) (hx : WayBox w1 w.heap.size 51 r) (hp : Past (NetS M v0 v1) w w1) (hM : M < B) (hB : B ≤ w.heap.size) (hv1 : ∀ g, v1.ownBlock = some g → B ≤ g ∧ g < w.heap.size)
    (ho : S3.StrRow w2 B v1 N.2) (hg : w1.drew.grownBy w2 v1.ownBlock) :
    NetIn w2 M B N v0 v1 ∧ WayBox w2 w.heap.size 51 r ∧ Past (NetS M v0 v1) w1 w2 := by
  have hg' : w1.grownBy w2 v1.ownBlock := ⟨hg.os, hg.tape, hg.output, hg.size, hg.block⟩
  obtain ⟨h1, h2⟩ := hn.grown hx hg' (fun e => by have := hv1 _ e; omega) (fun e => by have := hv1 _ e; omega) (fun g e => kinds_ne8 hn.ways hn.strs (by decide) g e) ho
  exact ⟨h1, h2, (Past.refl _ w1).grown hg' (fun k e _ => .inr (.inr e))⟩
/-- Both buildings are counted. -/
theorem add_two {w w1 w2 w3 : World} {M B : Nat} {N : NetD} {r : WayD} {v0 v1 v' vb : Value} (hn : NetIn w2 M B N v0 v1) (hx : WayBox w2 w.heap.size 51 r) (hp : Past (NetS M v0 v1) w w1) (hp2 : Past (NetS M v0 v1) w1 w2) (hs1 : w1.heap.size = w.heap.size + 1) (hM : M < B) (hB : B ≤ w.heap.size) (hv1 : ∀ g, v1.ownBlock = some g → B ≤ g ∧ g < w.heap.size)
    (hr2 : S3.StrRow w2 B v' (inc N.2 r.1)) (ha2 : v'.ownBlock = v1.ownBlock ∨ ∃ k, v'.ownBlock = some k ∧ w1.heap.size ≤ k)
    (hr3 : S3.StrRow w3 B vb (inc (inc N.2 r.1) r.2.1)) (ho3 : S3.StrRow w3 B v' (inc N.2 r.1)) (hg3 : w2.grownBy w3 v'.ownBlock) (ha3 : vb.ownBlock = v'.ownBlock ∨ ∃ k, vb.ownBlock = some k ∧ w2.heap.size ≤ k) :
    AddK M B N r v0 v1 vb w w3 := by
  have hv' : ∀ g, v'.ownBlock = some g → B ≤ g := fun g e => (World.ownsRow.lt hr2 g e).1
  obtain ⟨ys, hys⟩ := inc_vals N.2 r.1
  have hlen : N.2.length ≤ (inc N.2 r.1).length := by rw [inc_len]; omega
  have hs3 : S3.StrRow w3 B v1 N.2 := by
    rcases ha2 with h | ⟨k, h, hk⟩
    · have e2 : w2.ownsRow B 9 1 v' (inc N.2 r.1).length (S3.strVals N.2 ++ ys) := hys ▸ hr2
      have e3 : w3.ownsRow B 9 1 v' (inc N.2 r.1).length (S3.strVals N.2 ++ ys) := hys ▸ ho3
      exact row_begin hn.strs e2 e3 (by omega) h.symm hlen
    · refine World.ownsRow.kept hn.strs hg3 ?_
      cases hv : v1.ownBlock with
      | none => exact .inl rfl
      | some g =>
        refine .inr (fun e => ?_)
        rw [h] at e
        injection e with e
        have := hv1 g hv
        omega
  obtain ⟨h1, h2⟩ := hn.grown hx hg3 (fun e => by have := hv' _ e; omega) (fun e => by
    rcases ha2 with h | ⟨k, h, hk⟩
    · rw [h] at e; have := hv1 _ e; omega
    · rw [h] at e; injection e with e; omega) (fun g e => kinds_ne8 hn.ways hr2 (by decide) g e) hs3
  refine ⟨h1, h2, hr3, (hp.trans hp2).grown hg3 (fun k e hk => ?_), ?_⟩
  · rcases ha2 with h | ⟨k', h, hk'⟩
    · exact .inr (.inr (h ▸ e))
    · rw [h] at e; injection e with e; omega
  · rcases ha3 with h | ⟨k, h, hk⟩
    · rcases ha2 with h' | ⟨k', h', hk'⟩
      · exact .inl (h.trans h')
      · exact .inr ⟨k', h.trans h', by omega⟩
    · exact .inr ⟨k, h, by have := hp.size; have := hp2.size; omega⟩
/-- An append of which the run is known, in a region that draws its order. -/
theorem step_append_known {P : Program} {ops : Array Oper} {o : Oper} {a : Act} {w w2 : World} {K : Act → World → Prop} {Q : Exit → Act → World → Prop} {E : Prop}
    (hg : o.guard = none) (s x : Operand) (dT sT : TypeId) (hop : o.op = Op.call { callee := Callee.builtin Builtin.append, args := #[s, x], argTypes := #[dT, sT] })
    (vd vs v : Value) (hs : a.eval s = vd) (hx : a.eval x = vs) (hrun : (Builtin.append_ #[dT, sT] o.type #[vd, vs]).run P w = .ok v w2) (hK : K (a.put o.dst v) w2) :
    if Region.wanted o (yielded ops a.tmps) = true then Oper.wp P o a w K Q else E := by
  have hw : Region.wanted o (yielded ops a.tmps) = true := by simp [Region.wanted, hg]
  rw [if_pos hw]
  unfold Oper.wp
  simp [execOp, hop, resolve, invoke, builtin, hs, hx, hrun, Result.andThen]
  exact hK
theorem three_new (w : World) (x y z : Value) (T : TypeId) : ∀ (j : Nat) (u : Value), ([x, y, z] : List Value)[j]? = some u → (w.alloc (.cells #[x, y, z] T)).cell? ((⟨w.heap.size, 0, none⟩ : Addr).add j) = some u := by
  intro j u h
  rw [Addr.add_lit, Lib.cell_of_heap (heap_alloc_new w _), Nat.zero_add]
  match j, h with
  | 0, h => exact h
  | 1, h => exact h
  | 2, h => exact h
  | j + 3, h => simp at h
/-- A way more in a row of ways: the run. -/
theorem way_run (U : World) (B g : Nat) (l : List WayD) (r : WayD) (v : Value) (h : WayRow U B 51 v l) (hB : B ≤ U.heap.size) (hl : l.length ≤ 1073741824) (hc : ∀ (j : Nat) (u : Value), (wayVs r)[j]? = some u → U.cell? ((⟨g, 0, none⟩ : Addr).add j) = some u) :
    ∃ v' w', (Builtin.append_ #[64, 64] 64 #[v, .slice (some ⟨g, 0, none⟩) 1 1]).run Tryd.prog U = .ok v' w' ∧ WayRow w' B 51 v' (l ++ [r]) ∧ U.grownBy w' v.ownBlock ∧ Moved U v v' := by
  obtain ⟨iI, hiI, hzI, hsI, hbI⟩ := info_parts infoWay
  obtain ⟨v', w', hrun, hown, hg, _, hat⟩ := run_append_own_at (P := Tryd.prog) (w := U) B 64 64 51 iI (.agg #[.string ⟨#[]⟩, .string ⟨#[]⟩, .int .i64 0]) 3 40 Tryd.underlying64 hiI hzI hsI hbI rfl (by omega) v l.length (wayVals l) h ⟨g, 0, none⟩ 1 1 (wayVs r) rfl hc (way_one r) (by unfold maxLen; omega) (by omega) hB
  refine ⟨v', w', hrun, ?_, hg, hat.imp id (fun h => ⟨_, h, Nat.le_refl _⟩)⟩
  unfold WayRow
  rw [wayVals_app, List.length_append]
  simpa [wayVals] using hown
/-- The network with a way more. -/
theorem add_fin {w w5 U w7 W : World} {M B : Nat} {N : NetD} {r : WayD} {v0 v1 vb V : Value} (hk : AddK M B N r v0 v1 vb w w5) (hM : M < B) (hU : Past (fun k => k = M) w5 U) (hway : WayRow w7 B 51 V (N.1 ++ [r])) (hg : U.grownBy w7 v0.ownBlock) (hmv : Moved U v0 V)
    (hW : Past (fun k => k = M) w7 W) (hb : Box2 W M 66 V vb) :
    ∃ v0' v1', NetIn W M B (N.1 ++ [r], names2 N.2 r) v0' v1' ∧ Past (NetS M v0 v1) w W ∧ Moved w v0 v0' ∧ Moved w v1 v1' := by
  have hU' : Past (NetS M v0 v1) w5 U := hU.mono (fun k e => .inl e)
  have hW' : Past (NetS M v0 v1) w7 W := hW.mono (fun k e => .inl e)
  have hs5 := hk.past.size
  have hsU := hU.size
  have hvb : ∀ g, vb.ownBlock = some g → B ≤ g ∧ g < w5.heap.size := fun g e => World.ownsRow.lt hk.new g e
  refine ⟨V, vb, ⟨hb, row_past hway hW (fun g e => ?_), ?_⟩, (((hk.past.trans hU').grown hg (fun k e _ => .inr (.inl e))).trans hW'), ?_, hk.mv⟩
  · have := (World.ownsRow.lt hway g e).1
    show ¬ g = M
    omega
  · have h1 : S3.StrRow U B vb (names2 N.2 r) := row_past hk.new hU (fun g e => by have := hvb g e; show ¬ g = M; omega)
    have h2 : S3.StrRow w7 B vb (names2 N.2 r) := by
      refine World.ownsRow.kept h1 hg ?_
      cases hv : vb.ownBlock with
      | none => exact .inl rfl
      | some g => exact .inr (fun e => kinds_ne8 hk.net.ways hk.new (by decide) g e.symm hv)
    exact row_past h2 hW (fun g e => by have := hvb g e; show ¬ g = M; omega)
  · rcases hmv with h | ⟨k, h, hk'⟩
    · exact .inl h
    · exact .inr ⟨k, h, by omega⟩
end Go.Proofs.YtocmbifljkcmeaaDoor

set_option linter.unusedVariables false
namespace Go.Proofs.YtocmbifljkcmeaaDoor
open Go Go.Proofs Go.RowKit Go.Lib

set_option maxHeartbeats 8000000 in
set_option maxRecDepth 100000 in
theorem add8_any (M B : Nat) (N : NetD) (r : WayD) (v0 v1 : Value) (w : World) (hM : M < B) (hB : B ≤ w.heap.size) (h : NetIn w M B N v0 v1) (h8 : N.2.length ≤ 8) (hn : N.1.length ≤ 1073741824) :
    Calls Tryd.prog 38 #[.pointer (some ⟨M, 0, none⟩), wayV r] w (AddOut8 M B N r v0 v1 w) := by
  have hb0 := (Below.refl w.heap.size w).alloc (Nat.le_refl _) (.cells #[.string (ba r.1), .string (ba r.2.1), .int .i64 r.2.2] 51)
  have hx0 := Box3.new w 51 (.string (ba r.1)) (.string (ba r.2.1)) (.int .i64 r.2.2)
  have hnet := (NetIn.mk (h.box.next hb0) (row_under h.ways hb0) (row_under h.strs hb0) : NetIn (w.alloc (.cells #[.string (ba r.1), .string (ba r.2.1), .int .i64 r.2.2] 51)) M B N v0 v1)
  have hp0 : Past (NetS M v0 v1) w (w.alloc (.cells #[.string (ba r.1), .string (ba r.2.1), .int .i64 r.2.2] 51)) := Past.ofBelow hb0
  have HM : Hid (M < B) := hid hM
  have hv1 : ∀ g, v1.ownBlock = some g → B ≤ g ∧ g < w.heap.size := fun g e => World.ownsRow.lt h.strs g e
  have HV1 := hid hv1
  unfold AddOut8 wayV
  obtain ⟨w1, hw1⟩ : ∃ w1, w.alloc (.cells #[.string (ba r.1), .string (ba r.2.1), .int .i64 r.2.2] 51) = w1 := ⟨_, rfl⟩
  have hs1 : w1.heap.size = w.heap.size + 1 := by rw [← hw1]; simp
  rw [hw1] at hb0 hx0 hnet hp0
  have hb1 := hb0
  obtain ⟨X1, hX1⟩ : ∃ z, ba r.1 = z := ⟨_, rfl⟩
  obtain ⟨X2, hX2⟩ : ∃ z, ba r.2.1 = z := ⟨_, rfl⟩
  have cI := including_any B v1 N.2 X1 w1.drew (by show B ≤ w1.heap.size; omega) (row_drawn8 hnet.strs) (by omega)
  rw [show lst X1 = r.1 by rw [← hX1, lst_ba]] at cI
  have CI := hid cI
  have cJ : ∀ (v' : Value) (w2 : World), Past (NetS M v0 v1) w1 w2 → S3.StrRow w2 B v' (inc N.2 r.1) → Calls Tryd.prog 54 #[v', .string X2] w2 (IncOut B v' (inc N.2 r.1) r.2.1 w2) := fun v' w2 hp hr => by
    have c := including_any B v' (inc N.2 r.1) X2 w2 (by have := hp.size; omega) hr (by rw [inc_len]; split <;> omega)
    rw [show lst X2 = r.2.1 by rw [← hX2, lst_ba]] at c
    exact c
  have CJ := hid cJ
  have HN := hid hnet
  have HX := hid hx0
  have HP := hid hp0
  have HB := hid hB
  have HS1 := hid hs1
  have m1 := hnet.box.c1
  have y0 := hx0.c0
  have y1 := hx0.c1
  rw [hX1] at y0
  rw [hX2] at y1
  have hdw : Hid (wayV r = .agg #[.string X1, .string X2, .int .i64 r.2.2]) := hid (by unfold wayV; rw [hX1, hX2])
  have hEQ : (X1.toList == X2.toList) = decide (r.1 = r.2.1) := by rw [← hX1, ← hX2]; exact beq_ba _ _
  have HEQ := hid hEQ
  rw [hX1, hX2] at hw1 ⊢
  have HBA := hid hX1
  have HBB := hid hX2
  clear h hb0 hb1 hx0 hnet hp0 cI cJ hX1 hX2 hv1 hEQ
  go_enter Tryd.func38, Tryd.ntmps38
  go_upto_region 1 with fail
  (try rw [hw1])
  go_cut [5] (fun vb wx => Hid (AddK M B N r v0 v1 vb w wx))
  case first =>
    unfold IncOut at CI
    go_region_held3 (fun w' => w'.cell? ⟨w.heap.size, 0, none⟩ = some (.string X1) ∧ w'.cell? ⟨w.heap.size, 1, none⟩ = some (.string X2) ∧ w'.cell? ⟨M, 1, none⟩ = some v1)
      (first | exact ⟨y0, y1, m1⟩ | exact ⟨z0, z1, zm⟩ | exact ⟨q0, q1, qm⟩)
      (first
        | (go_at_call 54; with_reducible refine (CI.out).mono ?_; rintro e w2 ⟨v', rfl, hr2, ho2, hg2, ha2⟩
           have hq2 := add_one (r := r) HN.out HX.out HP.out HM.out HB.out HV1.out ho2 hg2
           obtain ⟨hq2a, hq2b, hq2c⟩ := hq2
           have zm := hq2a.box.c1
           have z0 := hq2b.c0
           have z1 := hq2b.c1
           rw [HBA.out] at z0
           rw [HBB.out] at z1
           have CJ2 := hid (CJ.out v' w2 hq2c hr2)
           have HA2 := hid hq2a
           have HA3 := hid hq2b
           have HA4 := hid hq2c
           have HR2 := hid hr2
           have HAT2 := hid ha2
           clear hq2a hq2b hq2c hr2 ho2 hg2 ha2)
        | (go_at_call 54; unfold IncOut at CJ2; with_reducible refine (CJ2.out).mono ?_; rintro e w3 ⟨vb, rfl, hr3, ho3, hg3, ha3⟩
           have hq3 := add_two HA2.out HA3.out HP.out HA4.out HS1.out HM.out HB.out HV1.out HR2.out HAT2.out hr3 ho3 hg3 ha3
           have qm := hq3.net.box.c1
           have q0 := hq3.way.c0
           have q1 := hq3.way.c1
           rw [HBA.out] at q0
           rw [HBB.out] at q1
           have HQ3 := hid hq3
           clear hq3 hr3 ho3 hg3 ha3))
    all_goals
      go_wp2_with fail
      go_meet
      exact HQ3
  case rest =>
    have HK := hcut
    clear hcut CI CJ HN HX HP y0 y1 m1 hw1
    have z0 := HK.out.way.c0
    have z1 := HK.out.way.c1
    have z2 := HK.out.way.c2
    rw [HBA.out] at z0
    rw [HBB.out] at z1
    have zm := HK.out.net.box.c0
    by_cases he : r.1 = r.2.1
    · have ha : addW N r = (N, 1) := if_pos he
      have hbe := HEQ.out
      rw [decide_eq_true he] at hbe
      have HA := hid ha
      clear ha he HEQ
      go_wp2
      go_ret
      rw [HA.out]
      exact ⟨rfl, v0, v1, HK.out.net, HK.out.past, .inl rfl, .inl rfl⟩
    · have hbe := HEQ.out
      rw [decide_eq_false he] at hbe
      obtain ⟨A0, c0, rfl, hc01, hc02, hin0⟩ := HK.out.net.ways.waysIn
      have cT := twinContains_any A0 N.1 c0 r wc.heap.size wc.drew (Nat.le_refl _) ((hin0.kept (w' := wc.drew) (fun _ _ => rfl)).mono (fun b hb => hb.2)) (by omega)
      unfold Says at cT
      rw [hdw.out] at cT
      obtain ⟨D, hD⟩ : ∃ D, dupW N.1 r = D := ⟨_, rfl⟩
      rw [hD] at cT
      have CT := hid cT
      have HD := hid hD
      have HE := hid he
      clear HEQ hD cT hin0 he
      go_upto_region 4 with fail
      refine wp_region_still_tail 6 (by kernel_rfl) (by kernel_rfl) ?_
      simp only [List.take_succ_cons, List.take_zero, List.drop_succ_cons, List.drop_zero]
      repeat still_step
      refine wpStill_nil ?_
      change wpList _ _ _ _ _ wc.drew
      go_wp2_with fail
      refine CT.out.mono ?_
      rintro e w5 ⟨rfl, hb5⟩
      have hk5 := (HK.out.next ((Below.refl _ wc).drew)).next hb5
      have HK5 := hid hk5
      clear hb5 hk5 CT z0 z1 z2 zm
      cases D with
      | true =>
        have ha : addW N r = (N, 11) := by unfold addW; rw [if_neg HE.out, if_pos HD.out]
        have HA := hid ha
        clear ha
        go_wp2
        go_ret
        rw [HA.out]
        exact ⟨rfl, _, v1, HK5.out.net, HK5.out.past, .inl rfl, .inl rfl⟩
      | false =>
        obtain ⟨Ab, cb, rfl, hcb1, hcb2, hinb⟩ := HK5.out.new.strsIn
        by_cases hn8 : 8 < (names2 N.2 r).length
        · have ha : addW N r = (N, 2) := by unfold addW; rw [if_neg HE.out, if_neg (by rw [HD.out]; simp), if_pos hn8]
          have hn8' : (8 : Int) < ((names2 N.2 r).length : Int) := by omega
          have HA := hid ha
          clear ha hinb
          go_wp2
          go_ret
          rw [HA.out]
          exact ⟨rfl, _, v1, HK5.out.net, HK5.out.past, .inl rfl, .inl rfl⟩
        · have ha : addW N r = ((N.1 ++ [r], names2 N.2 r), 0) := by unfold addW; rw [if_neg HE.out, if_neg (by rw [HD.out]; simp), if_neg hn8]
          have hn8' : ¬ (8 : Int) < ((names2 N.2 r).length : Int) := by omega
          have HA := hid ha
          have z0 := HK5.out.way.c0
          have z1 := HK5.out.way.c1
          have z2 := HK5.out.way.c2
          rw [HBA.out] at z0
          rw [HBB.out] at z1
          obtain ⟨zm, zn⟩ := And.intro HK5.out.net.box.c0 HK5.out.net.box.c1
          have f0 := HK5.out.net.box.free 0
          have f1 := HK5.out.net.box.free 1
          have hnet := HK5.out.net
          have hvt : wayVs r = [.string X1, .string X2, .int .i64 r.2.2] := by unfold wayVs; rw [HBA.out, HBB.out]
          have hb51 := (Below.refl w5.heap.size w5).alloc (Nat.le_refl _) (.cells #[.string X1, .string X2, .int .i64 r.2.2] 51)
          have hsz5 : B ≤ w5.heap.size := by have := HK5.out.past.size; have := HB.out; omega
          have hv0l : ∀ g, (Value.slice A0 N.1.length c0).ownBlock = some g → B ≤ g ∧ g < w5.heap.size := fun g e => World.ownsRow.lt hnet.ways g e
          have hv0w : ∀ g, (Value.slice A0 N.1.length c0).ownBlock = some g → (Value.slice Ab (names2 N.2 r).length cb).ownBlock ≠ some g := fun g e => kinds_ne8 hnet.ways HK5.out.new (by decide) g e
          have hbs1 : Box2 (w5.setCell ⟨M, 1, none⟩ (.slice Ab (names2 N.2 r).length cb)) M 66 (.slice A0 N.1.length c0) (.slice Ab (names2 N.2 r).length cb) := hnet.box.set1 _
          have hbe1 := hnet.box.next hb51
          obtain ⟨e0, e1⟩ := And.intro hbe1.c0 hbe1.c1
          have j0 := hbe1.free 0
          have j1 := hbe1.free 1
          have hbs2 := hbs1.next ((Below.refl _ _).alloc (Nat.le_refl _) (.cells #[.string X1, .string X2, .int .i64 r.2.2] 51))
          have hbs3 := hbe1.set1 (.slice Ab (names2 N.2 r).length cb)
          have hMlt : M < w5.heap.size := hnet.box.lt
          obtain ⟨V1, w71, hrun1, hway1, hg1, hmv1⟩ := way_run ((w5.alloc (.cells #[.string X1, .string X2, .int .i64 r.2.2] 51)).drew) B w5.heap.size N.1 r _ (row_under (row_under hnet.ways hb51) ((Below.refl _ _).drew)) (by simp; omega) (by omega) (by rw [hvt]; exact three_new w5 _ _ _ _)
          obtain ⟨g1, cap1, rfl, _, _⟩ := World.ownsRow.form hway1 (by simp)
          have hbx1 : Box2 w71 M 66 (.slice A0 N.1.length c0) v1 := (hnet.box.next hb51).kept (hg1.block M (by have := hnet.box.lt; simp; omega) (fun e => by have := hv0l M e.symm; have := HM.out; omega))
          obtain ⟨q0, q1⟩ := And.intro hbx1.c0 hbx1.c1
          have k0 := hbx1.free 0
          have k1 := hbx1.free 1
          have hs3 : ((w5.alloc (.cells #[.string X1, .string X2, .int .i64 r.2.2] 51)).setCell ⟨M, 1, none⟩ (.slice Ab (names2 N.2 r).length cb)) = (w5.setCell ⟨M, 1, none⟩ (.slice Ab (names2 N.2 r).length cb)).alloc (.cells #[.string X1, .string X2, .int .i64 r.2.2] 51) := World.setCell_alloc_past _ _ _ _ hMlt
          have hrw : WayRow ((w5.alloc (.cells #[.string X1, .string X2, .int .i64 r.2.2] 51)).setCell ⟨M, 1, none⟩ (.slice Ab (names2 N.2 r).length cb)) B 51 (.slice A0 N.1.length c0) N.1 := row_past (row_under hnet.ways hb51) ((Past.refl (fun k => k = M) _).setM 1 _) (fun g e => by have := hv0l g e; have := HM.out; show ¬ g = M; omega)
          obtain ⟨V2, w72, hrun2, hway2, hg2, hmv2⟩ := way_run (((w5.alloc (.cells #[.string X1, .string X2, .int .i64 r.2.2] 51)).setCell ⟨M, 1, none⟩ (.slice Ab (names2 N.2 r).length cb)).drew) B w5.heap.size N.1 r _ (row_under hrw ((Below.refl _ _).drew)) (by simp; omega) (by omega) (fun j u hj => by
            show ((w5.alloc (.cells #[.string X1, .string X2, .int .i64 r.2.2] 51)).setCell ⟨M, 1, none⟩ (.slice Ab (names2 N.2 r).length cb)).cell? _ = _
            rw [hs3]
            have := three_new (w5.setCell ⟨M, 1, none⟩ (.slice Ab (names2 N.2 r).length cb)) (.string X1) (.string X2) (.int .i64 r.2.2) 51 j u (by rw [← hvt]; exact hj)
            simpa using this)
          obtain ⟨g2, cap2, rfl, _, _⟩ := World.ownsRow.form hway2 (by simp)
          have hbx2 : Box2 w72 M 66 (.slice A0 N.1.length c0) (.slice Ab (names2 N.2 r).length cb) := hbs3.kept (hg2.block M (by simp; omega) (fun e => by have := hv0l M e.symm; have := HM.out; omega))
          obtain ⟨p0, p1⟩ := And.intro hbx2.c0 hbx2.c1
          have l0 := hbx2.free 0
          have l1 := hbx2.free 1
          obtain ⟨nn, hnn⟩ : ∃ m, (N.1 ++ [r]).length = m := ⟨_, rfl⟩
          rw [hnn] at hrun1 hrun2
          have hrun3 := hrun2
          rw [hs3] at hrun3
          have hpU : Past (fun k => k = M) w5 (w5.alloc (.cells #[.string X1, .string X2, .int .i64 r.2.2] 51)).drew := Past.ofBelow hb51.drew
          have hpU2 : Past (fun k => k = M) w5 ((w5.alloc (.cells #[.string X1, .string X2, .int .i64 r.2.2] 51)).setCell ⟨M, 1, none⟩ (.slice Ab (names2 N.2 r).length cb)).drew := (Past.setM (Past.ofBelow hb51) 1 _).trans (Past.ofBelow ((Below.refl _ _).drew))
          have hE1 := add_fin HK5.out HM.out hpU hway1 hg1 hmv1 (((Past.refl _ w71).setM 0 (.slice (some ⟨g1, 0, none⟩) nn cap1)).setM 1 (.slice Ab (names2 N.2 r).length cb)) (by rw [hnn]; exact hbx1.set _ _)
          have hE2 := add_fin HK5.out HM.out hpU2 hway2 hg2 hmv2 ((Past.refl _ w72).setM 0 (.slice (some ⟨g2, 0, none⟩) nn cap2)) (by rw [hnn]; exact hbx2.put0 _)
          have HE1 := hid hE1
          have HE2 := hid hE2
          clear hE1 hE2 hpU hpU2 hway1 hway2 hg1 hg2 hmv1 hmv2 hnn hs3 hrw hbx1 hbx2 hbs1 hbs2 hbs3 hbe1 hb51 hv0l hv0w hnet
          go_upto_region 8 with fail
          go_region_law (first
            | (refine step_append_known rfl (.tmp 39) (.tmp 41) 64 64 rfl _ _ _ (by simp [Act.eval]) (by simp [Act.eval]) hrun1 ?_)
            | (refine step_append_known rfl (.tmp 39) (.tmp 41) 64 64 rfl _ _ _ (by simp [Act.eval]) (by simp [Act.eval]) hrun2 ?_)
            | (refine step_append_known rfl (.tmp 39) (.tmp 41) 64 64 rfl _ _ _ (by simp [Act.eval]) (by simp [Act.eval]) hrun3 ?_))
          all_goals (go_wp2; go_ret; rw [HA.out]; first | exact ⟨rfl, HE1.out⟩ | exact ⟨rfl, HE2.out⟩)
end Go.Proofs.YtocmbifljkcmeaaDoor

