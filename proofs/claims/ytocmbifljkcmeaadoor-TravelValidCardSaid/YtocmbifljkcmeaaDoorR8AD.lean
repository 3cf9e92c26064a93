/-
  A way more in a network: add of travel. Conditions: the network's rows are the call's own, it has at most 8 buildings.
-/
import Derived.Test.YtocmbifljkcmeaaDoorBF
import Derived.Test.YtocmbifljkcmeaaDoorR8N
import Derived.Deep.RegionLaw
import Derived.Deep.RegionLawGrows
set_option linter.unusedVariables false
namespace Go.Proofs.YtocmbifljkcmeaaDoor
open Go Go.Proofs Go.RowKit Go.Lib

theorem Box2.put0 {w : World} {B : Nat} {T : TypeId} {v0 v1 : Value} (h : Box2 w B T v0 v1) (u : Value) : Box2 (w.setCell ⟨B, 0, none⟩ u) B T u v1 := ⟨by rw [heap_setCell_same w B 0 _ _ u h.h]; rfl⟩
/-- Nothing has turned but the blocks with S. -/
structure Past (S : Nat → Prop) (w w' : World) : Prop where
  os : w'.os = w.os
  tape : w'.tape = w.tape
  output : w'.output = w.output
  size : w.heap.size ≤ w'.heap.size
  block : ∀ k, k < w.heap.size → ¬ S k → w'.heap[k]? = w.heap[k]?
section
variable {S S' : Nat → Prop} {w w' w'' : World} {B : Nat}
theorem Past.refl (S : Nat → Prop) (w : World) : Past S w w := ⟨rfl, rfl, rfl, Nat.le_refl _, fun _ _ _ => rfl⟩
theorem Past.trans (h : Past S w w') (k : Past S w' w'') : Past S w w'' := ⟨k.os.trans h.os, k.tape.trans h.tape, k.output.trans h.output, Nat.le_trans h.size k.size, fun i hi hs => (k.block i (Nat.lt_of_lt_of_le hi h.size) hs).trans (h.block i hi hs)⟩
theorem Past.mono (h : Past S w w') (hS : ∀ k, S k → S' k) : Past S' w w' := ⟨h.os, h.tape, h.output, h.size, fun k hk hn => h.block k hk (fun e => hn (hS k e))⟩
theorem Past.ofBelow (h : Below w.heap.size w w') : Past S w w' := ⟨h.os, h.tape, h.output, h.size, fun k hk _ => h.block k hk⟩
theorem Past.grown (h : Past S w w') {row : Option Nat} (hg : w'.grownBy w'' row) (hr : ∀ k, row = some k → k < w.heap.size → S k) : Past S w w'' :=
  ⟨hg.os.trans h.os, hg.tape.trans h.tape, hg.output.trans h.output, Nat.le_trans h.size hg.size, fun k hk hn => (hg.block k (Nat.lt_of_lt_of_le hk h.size) (fun e => hn (hr k e.symm hk))).trans (h.block k hk hn)⟩
theorem Past.set (h : Past S w w') (p : Addr) (v : Value) (hp : p.block < w.heap.size → S p.block) : Past S w (w'.setCell p v) :=
  ⟨h.os, h.tape, h.output, Nat.le_trans h.size (by simp), fun k hk hn => (Below.heap_setCell w' p v k (fun e => hn (e ▸ hp (e ▸ hk)))).trans (h.block k hk hn)⟩
theorem Past.below (h : Past S w w') (hS : ∀ k, S k → B ≤ k) (hB : B ≤ w.heap.size) : Below B w w' := ⟨h.os, h.tape, h.output, h.size, fun k hk => h.block k (by omega) (fun e => by have := hS k e; omega)⟩
end
theorem Past.setM {w w' : World} {M : Nat} (h : Past (fun k => k = M) w w') (j : Nat) (v : Value) : Past (fun k => k = M) w (w'.setCell ⟨M, j, none⟩ v) := h.set ⟨M, j, none⟩ v (fun _ => rfl)
theorem row_past {S : Nat → Prop} {w w' : World} {B e z n : Nat} {v : Value} {xs : List Value} (h : w.ownsRow B e z v n xs) (k : Past S w w') (hS : ∀ g, v.ownBlock = some g → ¬ S g) : w'.ownsRow B e z v n xs := by
  refine ⟨h.1, ?_⟩
  rcases h.2 with h2 | ⟨g, cap, cur, rfl, hb, hg, rest⟩
  · exact .inl h2
  · exact .inr ⟨g, cap, cur, rfl, hb, (k.block g (Array.getElem?_eq_some_iff.1 hg).1 (hS g rfl)).trans hg, rest⟩
theorem row_kind8 {w : World} {B e z k : Nat} {v : Value} {xs : List Value} (h : w.ownsRow B e z v k xs) (g : Nat) (hg : v.ownBlock = some g) : ∃ c, w.heap[g]? = some (.cells c e (0, 0)) := by
  rcases h.2 with ⟨rfl, _⟩ | ⟨g', cap, cur, rfl, _, hh, _⟩
  · simp [Value.ownBlock] at hg
  · simp only [Value.ownBlock, Option.some.injEq] at hg
    subst hg
    exact ⟨cur, hh⟩
theorem kinds_ne8 {W : World} {B B' e e' z z' n n' : Nat} {v v' : Value} {xs xs' : List Value} (h : W.ownsRow B e z v n xs) (h' : W.ownsRow B' e' z' v' n' xs') (hne : e ≠ e') : ∀ g, v.ownBlock = some g → v'.ownBlock ≠ some g := by
  intro g hg e0
  obtain ⟨c, hc⟩ := row_kind8 h g hg
  obtain ⟨c', hc'⟩ := row_kind8 h' g e0
  rw [hc] at hc'
  injection hc' with h1
  injection h1 with _ h2
  exact hne h2
/-- The network in block M: its ways, its buildings, in rows of the call's own. -/
structure NetIn (w : World) (M B : Nat) (N : NetD) (v0 v1 : Value) : Prop where
  box : Box2 w M 66 v0 v1
  ways : WayRow w B 51 v0 N.1
  strs : S3.StrRow w B v1 N.2
/-- The blocks that a network may turn. -/
def NetS (M : Nat) (v0 v1 : Value) (k : Nat) : Prop := k = M ∨ v0.ownBlock = some k ∨ v1.ownBlock = some k
def Moved (w : World) (v v' : Value) : Prop := v'.ownBlock = v.ownBlock ∨ ∃ k, v'.ownBlock = some k ∧ w.heap.size ≤ k
/-- What add leaves behind. -/
def AddOut8 (M B : Nat) (N : NetD) (r : WayD) (v0 v1 : Value) (w : World) (e : Ending) (w' : World) : Prop :=
  e = .returned (.int .i64 (addW N r).2) ∧ ∃ v0' v1', NetIn w' M B (addW N r).1 v0' v1' ∧ Past (NetS M v0 v1) w w' ∧ Moved w v0 v0' ∧ Moved w v1 v1'
/-- What holds once the buildings are counted. -/
structure AddK (M B : Nat) (N : NetD) (r : WayD) (v0 v1 vb : Value) (w wx : World) : Prop where
  net : NetIn wx M B N v0 v1
  way : WayBox wx w.heap.size 51 r
  new : S3.StrRow wx B vb (names2 N.2 r)
  past : Past (NetS M v0 v1) w wx
  mv : Moved w v1 vb
theorem AddK.next {M B : Nat} {N : NetD} {r : WayD} {v0 v1 vb : Value} {w wx wy : World} (h : AddK M B N r v0 v1 vb w wx) (k : Below wx.heap.size wx wy) : AddK M B N r v0 v1 vb w wy :=
  ⟨⟨h.net.box.next k, row_under h.net.ways k, row_under h.net.strs k⟩, h.way.next k, row_under h.new k, h.past.trans (Past.ofBelow k), h.mv⟩
theorem row_drawn8 {w : World} {B e z n : Nat} {v : Value} {xs : List Value} (h : w.ownsRow B e z v n xs) : (w.drew).ownsRow B e z v n xs := row_under h ((Below.refl _ w).drew)
theorem NetIn.grown {w1 w2 : World} {M B : Nat} {N : NetD} {v0 v1 : Value} {X : Nat} {T : TypeId} {x0 x1 x2 : Value} (hn : NetIn w1 M B N v0 v1) (hx : Box3 w1 X T x0 x1 x2) {row : Option Nat} (hg : w1.grownBy w2 row) (hM : row ≠ some M) (hX : row ≠ some X)
    (h0 : ∀ g, v0.ownBlock = some g → row ≠ some g) (hs : S3.StrRow w2 B v1 N.2) : NetIn w2 M B N v0 v1 ∧ Box3 w2 X T x0 x1 x2 := by
  refine ⟨⟨hn.box.kept (hg.block M hn.box.lt (fun e => hM e.symm)), World.ownsRow.kept hn.ways hg ?_, hs⟩, hx.kept (hg.block X hx.lt (fun e => hX e.symm))⟩
  cases hv : v0.ownBlock with
  | none => exact .inl rfl
  | some g => exact .inr (fun e => h0 g hv e.symm)
theorem inc_vals (l : List Str) (s : Str) : ∃ ys, S3.strVals (inc l s) = S3.strVals l ++ ys := by
  unfold inc
  split
  · exact ⟨[], by simp⟩
  · exact ⟨S3.strVals [s], by unfold S3.strVals; rw [List.map_append]⟩
/-- The first building is counted. -/
theorem add_one {w w1 w2 : World} {M B : Nat} {N : NetD} {r : WayD} {v0 v1 : Value} (hn : NetIn w1 M B N v0 v1) (hx : WayBox w1 w.heap.size 51 r) (hp : Past (NetS M v0 v1) w w1) (hM : M < B) (hB : B ≤ w.heap.size) (hv1 : ∀ g, v1.ownBlock = some g → B ≤ g ∧ g < w.heap.size)
    (ho : S3.StrRow w2 B v1 N.2) (hg : w1.drew.grownBy w2 v1.ownBlock) :
    NetIn w2 M B N v0 v1 ∧ WayBox w2 w.heap.size 51 r ∧ Past (NetS M v0 v1) w1 w2 := by
  have hg' : w1.grownBy w2 v1.ownBlock := ⟨hg.os, hg.tape, hg.output, hg.size, hg.block⟩
  obtain ⟨h1, h2⟩ := hn.grown hx hg' (fun e => by have := hv1 _ e; omega) (fun e => by have := hv1 _ e; omega) (fun g e => kinds_ne8 hn.ways hn.strs (by decide) g e) ho
  exact ⟨h1, h2, (Past.refl _ w1).grown hg' (fun k e _ => .inr (.inr e))⟩
/-- Both buildings are counted. -/
theorem add_two {w w1 w2 w3 : World} {M B : Nat} {N : NetD} {r : WayD} {v0 v1 v' vb : Value} (hn : NetIn w2 M B N v0 v1) (hx : WayBox w2 w.heap.size 51 r) (hp : Past (NetS M v0 v1) w w1) (hp2 : Past (NetS M v0 v1) w1 w2) (hs1 : w1.heap.size = w.heap.size + 1) (hM : M < B) (hB : B ≤ w.heap.size) (hv1 : ∀ g, v1.ownBlock = some g → B ≤ g ∧ g < w.heap.size)
    (hr2 : S3.StrRow w2 B v' (inc N.2 r.1)) (ha2 : v'.ownBlock = v1.ownBlock ∨ ∃ k, v'.ownBlock = some k ∧ w1.heap.size ≤ k)
    (hr3 : S3.StrRow w3 B vb (inc (inc N.2 r.1) r.2.1)) (ho3 : S3.StrRow w3 B v' (inc N.2 r.1)) (hg3 : w2.grownBy w3 v'.ownBlock) (ha3 : vb.ownBlock = v'.ownBlock ∨ ∃ k, vb.ownBlock = some k ∧ w2.heap.size ≤ k) :
    AddK M B N r v0 v1 vb w w3 := by
  have hv' : ∀ g, v'.ownBlock = some g → B ≤ g := fun g e => (World.ownsRow.lt hr2 g e).1
  obtain ⟨ys, hys⟩ := inc_vals N.2 r.1
  have hlen : N.2.length ≤ (inc N.2 r.1).length := by rw [inc_len]; omega
  have hs3 : S3.StrRow w3 B v1 N.2 := by
    rcases ha2 with h | ⟨k, h, hk⟩
    · have e2 : w2.ownsRow B 9 1 v' (inc N.2 r.1).length (S3.strVals N.2 ++ ys) := hys ▸ hr2
      have e3 : w3.ownsRow B 9 1 v' (inc N.2 r.1).length (S3.strVals N.2 ++ ys) := hys ▸ ho3
      exact row_begin hn.strs e2 e3 (by omega) h.symm hlen
    · refine World.ownsRow.kept hn.strs hg3 ?_
      cases hv : v1.ownBlock with
      | none => exact .inl rfl
      | some g =>
        refine .inr (fun e => ?_)
        rw [h] at e
        injection e with e
        have := hv1 g hv
        omega
  obtain ⟨h1, h2⟩ := hn.grown hx hg3 (fun e => by have := hv' _ e; omega) (fun e => by
    rcases ha2 with h | ⟨k, h, hk⟩
    · rw [h] at e; have := hv1 _ e; omega
    · rw [h] at e; injection e with e; omega) (fun g e => kinds_ne8 hn.ways hr2 (by decide) g e) hs3
  refine ⟨h1, h2, hr3, (hp.trans hp2).grown hg3 (fun k e hk => ?_), ?_⟩
  · rcases ha2 with h | ⟨k', h, hk'⟩
    · exact .inr (.inr (h ▸ e))
    · rw [h] at e; injection e with e; omega
  · rcases ha3 with h | ⟨k, h, hk⟩
    · rcases ha2 with h' | ⟨k', h', hk'⟩
      · exact .inl (h.trans h')
      · exact .inr ⟨k', h.trans h', by omega⟩
    · exact .inr ⟨k, h, by have := hp.size; have := hp2.size; omega⟩
/-- An append of which the run is known, in a region that draws its order. -/
theorem step_append_known {P : Program} {ops : Array Oper} {o : Oper} {a : Act} {w w2 : World} {K : Act → World → Prop} {Q : Exit → Act → World → Prop} {E : Prop}
    (hg : o.guard = none) (s x : Operand) (dT sT : TypeId) (hop : o.op = Op.call { callee := Callee.builtin Builtin.append, args := #[s, x], argTypes := #[dT, sT] })
    (vd vs v : Value) (hs : a.eval s = vd) (hx : a.eval x = vs) (hrun : (Builtin.append_ #[dT, sT] o.type #[vd, vs]).run P w = .ok v w2) (hK : K (a.put o.dst v) w2) :
    if Region.wanted o (yielded ops a.tmps) = true then Oper.wp P o a w K Q else E := by
  have hw : Region.wanted o (yielded ops a.tmps) = true := by simp [Region.wanted, hg]
  rw [if_pos hw]
  unfold Oper.wp
  simp [execOp, hop, resolve, invoke, builtin, hs, hx, hrun, Result.andThen]
  exact hK
theorem three_new (w : World) (x y z : Value) (T : TypeId) : ∀ (j : Nat) (u : Value), ([x, y, z] : List Value)[j]? = some u → (w.alloc (.cells #[x, y, z] T)).cell? ((⟨w.heap.size, 0, none⟩ : Addr).add j) = some u := by
  intro j u h
  rw [Addr.add_lit, Lib.cell_of_heap (heap_alloc_new w _), Nat.zero_add]
  match j, h with
  | 0, h => exact h
  | 1, h => exact h
  | 2, h => exact h
  | j + 3, h => simp at h
/-- A way more in a row of ways: the run. -/
theorem way_run (U : World) (B g : Nat) (l : List WayD) (r : WayD) (v : Value) (h : WayRow U B 51 v l) (hB : B ≤ U.heap.size) (hl : l.length ≤ 1073741824) (hc : ∀ (j : Nat) (u : Value), (wayVs r)[j]? = some u → U.cell? ((⟨g, 0, none⟩ : Addr).add j) = some u) :
    ∃ v' w', (Builtin.append_ #[64, 64] 64 #[v, .slice (some ⟨g, 0, none⟩) 1 1]).run Tryd.prog U = .ok v' w' ∧ WayRow w' B 51 v' (l ++ [r]) ∧ U.grownBy w' v.ownBlock ∧ Moved U v v' := by
  obtain ⟨iI, hiI, hzI, hsI, hbI⟩ := info_parts infoWay
  obtain ⟨v', w', hrun, hown, hg, _, hat⟩ := run_append_own_at (P := Tryd.prog) (w := U) B 64 64 51 iI (.agg #[.string ⟨#[]⟩, .string ⟨#[]⟩, .int .i64 0]) 3 40 Tryd.underlying64 hiI hzI hsI hbI rfl (by omega) v l.length (wayVals l) h ⟨g, 0, none⟩ 1 1 (wayVs r) rfl hc (way_one r) (by unfold maxLen; omega) (by omega) hB
  refine ⟨v', w', hrun, ?_, hg, hat.imp id (fun h => ⟨_, h, Nat.le_refl _⟩)⟩
  unfold WayRow
  rw [wayVals_app, List.length_append]
  simpa [wayVals] using hown
/-- The network with a way more. -/
theorem add_fin {w w5 U w7 W : World} {M B : Nat} {N : NetD} {r : WayD} {v0 v1 vb V : Value} (hk : AddK M B N r v0 v1 vb w w5) (hM : M < B) (hU : Past (fun k => k = M) w5 U) (hway : WayRow w7 B 51 V (N.1 ++ [r])) (hg : U.grownBy w7 v0.ownBlock) (hmv : Moved U v0 V)
    (hW : Past (fun k => k = M) w7 W) (hb : Box2 W M 66 V vb) :
    ∃ v0' v1', NetIn W M B (N.1 ++ [r], names2 N.2 r) v0' v1' ∧ Past (NetS M v0 v1) w W ∧ Moved w v0 v0' ∧ Moved w v1 v1' := by
  have hU' : Past (NetS M v0 v1) w5 U := hU.mono (fun k e => .inl e)
  have hW' : Past (NetS M v0 v1) w7 W := hW.mono (fun k e => .inl e)
  have hs5 := hk.past.size
  have hsU := hU.size
  have hvb : ∀ g, vb.ownBlock = some g → B ≤ g ∧ g < w5.heap.size := fun g e => World.ownsRow.lt hk.new g e
  refine ⟨V, vb, ⟨hb, row_past hway hW (fun g e => ?_), ?_⟩, (((hk.past.trans hU').grown hg (fun k e _ => .inr (.inl e))).trans hW'), ?_, hk.mv⟩
  · have := (World.ownsRow.lt hway g e).1
    show ¬ g = M
    omega
  · have h1 : S3.StrRow U B vb (names2 N.2 r) := row_past hk.new hU (fun g e => by have := hvb g e; show ¬ g = M; omega)
    have h2 : S3.StrRow w7 B vb (names2 N.2 r) := by
      refine World.ownsRow.kept h1 hg ?_
      cases hv : vb.ownBlock with
      | none => exact .inl rfl
      | some g => exact .inr (fun e => kinds_ne8 hk.net.ways hk.new (by decide) g e.symm hv)
    exact row_past h2 hW (fun g e => by have := hvb g e; show ¬ g = M; omega)
  · rcases hmv with h | ⟨k, h, hk'⟩
    · exact .inl h
    · exact .inr ⟨k, h, by omega⟩
end Go.Proofs.YtocmbifljkcmeaaDoor
