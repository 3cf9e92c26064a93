/-
  What holds while classes are read out of records. Conditions: as stated.
-/
import Derived.Test.YtigdcgklpapfbaaGreatDoorVN01
import Derived.Test.YtigdcgklpapfbaaGreatDoorVN02
import Derived.Test.YtigdcgklpapfbaaGreatDoorVN03
import Derived.Test.YtigdcgklpapfbaaGreatDoorVN04
import Derived.Test.YtigdcgklpapfbaaGreatDoorVN05
import Derived.Test.YtigdcgklpapfbaaGreatDoorVN06
import Derived.Test.YtigdcgklpapfbaaGreatDoorVN07
import Derived.Test.YtigdcgklpapfbaaGreatDoorVN08
import Derived.Test.YtigdcgklpapfbaaGreatDoorVN09
import Derived.Test.YtigdcgklpapfbaaGreatDoorVN10
import Derived.Test.YtigdcgklpapfbaaGreatDoorVN11
import Derived.Test.YtigdcgklpapfbaaGreatDoorVN12
import Derived.Test.YtigdcgklpapfbaaGreatDoorVN13
import Derived.Test.YtigdcgklpapfbaaGreatDoorVN14
import Derived.Test.YtigdcgklpapfbaaGreatDoorVN15
import Derived.Test.YtigdcgklpapfbaaGreatDoorVN16
import Derived.Test.YtigdcgklpapfbaaGreatDoorVN21
import Derived.Test.YtigdcgklpapfbaaGreatDoorVN23
import Derived.Test.YtigdcgklpapfbaaGreatDoorVN31
import Derived.Test.YtigdcgklpapfbaaGreatDoorProg
import Derived.WalkKit
import Derived.WalkSpells
import Derived.WalkLawsBesides
import Derived.Lib.Hide
import Derived.Deep.QuietTactic
import Derived.BigQuiet
import Derived.Laws.Rows
import Derived.OwnWalk
import Derived.Lib.BufferWrite
import Derived.Lib.UnsafeStr
import Derived.Laws.IdiomStrings
import Derived.Laws.BytesArg
import Derived.Laws.BytesString
import Derived.Laws.OwnMore
import Derived.Lib.IndexLaws
import Derived.Lib.ItoaNum
import Derived.Lib.Atoi
import Derived.Laws.BitsAllLaws
import Derived.Laws.BitsLemmas
import Derived.Deep.MidRow
import Derived.Shelf.Strings.Builder1
import Derived.Shelf.Strings.Builder2
import Derived.Shelf.Strings.OnBuilder
import Derived.Shelf.Strings.Trim
import Derived.Shelf.Small.Bits
import Derived.Shelf.Small.Strs
import Derived.Shelf.Small.Wraps
import Derived.Shelf.Strings.BuilderF
import Derived.Shelf.Strings.BuilderK
import Derived.Shelf.Strings.Builder2Cap
import Derived.Shelf.Strconv.Atoi
import Derived.Shelf.Strconv.Itoa0
import Derived.Shelf.Strconv.Itoa1
import Derived.Shelf.LaysM
import Derived.Shelf.Strconv.Itoa2
import Derived.Shelf.Strconv.Itoa3
import Derived.Shelf.Strconv.AtoiErrFast
import Derived.Shelf.Strconv.ParseIntEmpty
import Derived.Shelf.Strconv.AtoiFail
import Derived.Shelf.Strconv.Clone
import Derived.Shelf.Strconv.SyntaxError
import Derived.Shelf.LaysC
import Derived.Shelf.Strconv.ToError
import Derived.Shelf.Strconv.AtoiErr
import Derived.Shelf.Strings.Search1
import Derived.Shelf.Strings.Search2
import Derived.Shelf.Strings.Search3
import Derived.Shelf.Strings.Cut
import Derived.Shelf.Strings.Shaped
import Derived.Shelf.Strings.Prefix
import Derived.Shelf.Strings.Runes
import Derived.Shelf.Strings.AsciiSet
import Derived.Shelf.Bits.Mul64
import Derived.Shelf.Strings.Repeat
import Derived.Shelf.Unicode.DecodeSlow
import Derived.Shelf.Strings.BuilderCap
import Derived.Shelf.Slices.Turned
import Derived.Ground.SlgfProg
import Derived.Shelf.SlicesE.IndexFunc
import Derived.Lib.AtoiErrMem
import Derived.Handy
import Derived.RangeFuncNested
import Derived.RangeFuncBound
import Derived.RangeFuncCalls
import Derived.RangeFuncLeaves
import Derived.Shelf.Abstract
import Derived.Shelf.RegionOpen
import Derived.OwnWalkIn
import Derived.Lib.Bytealg
import Derived.Lib.SlTrimSet
import Derived.Shelf.Strings.SlTrimAscii
import Derived.Laws.ResultCell
import Derived.RegionTactic
import Derived.Lib.Repeat
import Derived.Deep.RegionHeld3
import Derived.Lib.SlicesS
import Derived.TacticsInMore
import Derived.LoopNIn
import Derived.LoopIn
import Derived.Deep.DeepCutAuto
import Derived.Lib.Join
import Derived.Laws.Concat
import Derived.Maps.OwnSet
import Derived.Maps.Range
import Derived.Sort.EncStr
import Derived.Deep.RegionLaw
set_option linter.unusedVariables false
namespace Go.Proofs.YtigdcgklpapfbaaGreatDoor.S10
open Go Go.Proofs Go.RowKit Go.Lib Go.Proofs.YtigdcgklpapfbaaGreatDoor

structure EInv (M : Nat) (w : World) (rs : List ClassD) (ps : List ProbD) (cs : List Str) (v1 v2 : Value) (W : World) : Prop where
  row : ∃ Lr : List (ClassD × ClassA), Lr.map (·.1) = rs ∧ W.ownsRow w.heap.size 33 9 v1 Lr.length (clsVals Lr) ∧ ∀ p ∈ Lr, ClassIn W (fun k => w.heap.size ≤ k ∧ k < W.heap.size ∧ some k ≠ v1.ownBlock ∧ some k ≠ v2.ownBlock) p.1 p.2
  probs : ProbsRow W w.heap.size v2 ps
  map : KMap W M cs
  gr : w.grownBy W (some M)
theorem EInv.start {M : Nat} {w : World} (h : KMap w M []) : EInv M w [] [] [] (.slice none 0 0) (.slice none 0 0) w :=
  ⟨⟨[], rfl, World.ownsRow_nil _ _ _ _, fun p hp => by simp at hp⟩, World.ownsRow_nil _ _ _ _, h, grown_none (below_grown (Below.refl _ w) (Nat.le_refl _))⟩
theorem EInv.below {M : Nat} {w W : World} {rs : List ClassD} {ps : List ProbD} {cs : List Str} {v1 v2 : Value} (h : EInv M w rs ps cs v1 v2 W) (hM : M < w.heap.size) : Below M w W :=
  ⟨h.gr.os, h.gr.tape, h.gr.output, h.gr.size, fun k hk => h.gr.block k (by omega) (fun e => by injection e with e; omega)⟩
section
variable {M : Nat} {w W W' : World} {rs : List ClassD} {ps : List ProbD} {cs cs' : List Str} {v1 v2 : Value}
/-- A call in between, which turns nothing but the map at most. -/
theorem EInv.past (h : EInv M w rs ps cs v1 v2 W) (hM : M < w.heap.size) (hg : W.grownBy W' (some M)) (hk : KMap W' M cs') : EInv M w rs ps cs' v1 v2 W' := by
  obtain ⟨⟨Lr, hL, ho, hr⟩, hp, _, hb⟩ := h
  have hs := hg.size
  have hbs := hb.size
  have e1 : some M ≠ v1.ownBlock := fun e => by have := (own_lt ho M e.symm).1; omega
  have e2 : some M ≠ v2.ownBlock := fun e => by have := (own_lt hp M e.symm).1; omega
  refine ⟨⟨Lr, hL, World.ownsRow.kept ho hg (.inr fun e => e1 e.symm), fun p hp' => ?_⟩, World.ownsRow.kept hp hg (.inr fun e => e2 e.symm), hk, hb.andThen hg (fun j hj => .inr hj)⟩
  exact ((hr p hp').kept (fun k hk => hg.block k hk.2.1 (fun e => by injection e; omega))).mono (fun k hk => ⟨hk.1, by omega, hk.2.2⟩)
theorem EInv.under (h : EInv M w rs ps cs v1 v2 W) (hM : M < w.heap.size) (hb : Below W.heap.size W W') : EInv M w rs ps cs v1 v2 W' :=
  h.past hM (grown_none ⟨hb.os, hb.tape, hb.output, hb.size, fun k hk _ => hb.block k hk⟩) (h.map.below hb)
/-- One problem more. -/
theorem EInv.prob {v2' : Value} {p : ProbD} (h : EInv M w rs ps cs v1 v2 W) (hM : M < w.heap.size) (hown : ProbsRow W' w.heap.size v2' (ps ++ [p])) (hg : W.grownBy W' v2.ownBlock) (hat : v2'.ownBlock = v2.ownBlock ∨ ∃ k, v2'.ownBlock = some k ∧ W.heap.size ≤ k) : EInv M w rs (ps ++ [p]) cs v1 v2' W' := by
  obtain ⟨⟨Lr, hL, ho, hr⟩, hp, hk, hb⟩ := h
  have hs := hg.size
  have hbs := hb.size
  have e2 : some M ≠ v2.ownBlock := fun e => by have := (own_lt hp M e.symm).1; omega
  refine ⟨⟨Lr, hL, World.ownsRow.kept ho hg (kinds_ne ho hp (by decide)), fun p hp' => ?_⟩, hown, hk.kept hg e2, hb.andThen hg (fun j hj => .inl (own_lt hp j hj).1)⟩
  refine ((hr p hp').kept (fun k hk => hg.block k hk.2.1 hk.2.2.2)).mono (fun k hk => ⟨hk.1, by omega, hk.2.2.1, ?_⟩)
  rcases hat with e | ⟨j, e, hj⟩
  · rw [e]; exact hk.2.2.2
  · rw [e]; intro e0; injection e0 with e0; have := hk.2.1; omega
/-- One room more. -/
theorem EInv.room {v1' : Value} {r : ClassD} {q : ClassA} {C : Nat} (h : EInv M w rs ps cs v1 v2 W) (hM : M < w.heap.size)
    (hr' : ClassIn W (fun k => C ≤ k ∧ k < W.heap.size) r q) (hC : w.heap.size ≤ C) (h1 : ∀ k, v1.ownBlock = some k → k < C) (h2 : ∀ k, v2.ownBlock = some k → k < C)
    {Lr : List (ClassD × ClassA)} (hL : Lr.map (·.1) = rs) (ho : W.ownsRow w.heap.size 33 9 v1 Lr.length (clsVals Lr)) (hr : ∀ p ∈ Lr, ClassIn W (fun k => w.heap.size ≤ k ∧ k < W.heap.size ∧ some k ≠ v1.ownBlock ∧ some k ≠ v2.ownBlock) p.1 p.2)
    (hown : W'.ownsRow w.heap.size 33 9 v1' (Lr.length + 1) (clsVals Lr ++ clsVs r q))
    (hg : W.grownBy W' v1.ownBlock) (hat : v1'.ownBlock = v1.ownBlock ∨ ∃ k, v1'.ownBlock = some k ∧ W.heap.size ≤ k) : EInv M w (rs ++ [r]) ps cs v1' v2 W' := by
  obtain ⟨_, hp, hk, hb⟩ := h
  have hs := hg.size
  have hbs := hb.size
  have e1 : some M ≠ v1.ownBlock := fun e => by have := (own_lt ho M e.symm).1; omega
  have hne : ∀ k, k < W.heap.size → some k ≠ v1.ownBlock → some k ≠ v1'.ownBlock := by
    intro k hk hne
    rcases hat with e | ⟨j, e, hj⟩
    · rw [e]; exact hne
    · rw [e]; intro e0; injection e0 with e0; omega
  refine ⟨⟨Lr ++ [(r, q)], by rw [List.map_append, hL]; rfl, ?_, fun p hp' => ?_⟩, World.ownsRow.kept hp hg (kinds_ne hp ho (by decide)), hk.kept hg e1, hb.andThen hg (fun j hj => .inl (own_lt ho j hj).1)⟩
  · rw [clsVals_app, List.length_append, List.length_singleton]
    simpa [clsVals] using hown
  · rcases List.mem_append.1 hp' with hp' | hp'
    · exact ((hr p hp').kept (fun k hk => hg.block k hk.2.1 hk.2.2.1)).mono (fun k hk => ⟨hk.1, by omega, hne k hk.2.1 hk.2.2.1, hk.2.2.2⟩)
    · rw [List.mem_singleton] at hp'
      subst hp'
      have k1 : ∀ k, C ≤ k → some k ≠ v1.ownBlock := fun k hk e => by have := h1 k e.symm; omega
      have k2 : ∀ k, C ≤ k → some k ≠ v2.ownBlock := fun k hk e => by have := h2 k e.symm; omega
      exact (hr'.kept (fun k hk => hg.block k hk.2 (k1 k hk.1))).mono (fun k hk => ⟨by omega, by omega, hne k hk.2 (k1 k hk.1), k2 k hk.1⟩)
end
theorem setF_code (d s b m n : Int) (K : Nat) (hK : 0 < K) (i : Nat) (x : Str) (r : ClassD) (hx : x.length < K) (hr : r.code.length < K) : (setF d s b m n i x r).1.code.length < K := by
  match i with
  | 0 => simp only [setF]; split <;> simp_all
  | 1 => simp only [setF]; split <;> exact hr
  | 2 => simp only [setF]; split <;> exact hr
  | 3 => exact hr
  | 4 => exact hr
  | 5 => exact hr
  | 6 => exact hr
  | 7 => exact hr
  | 8 => exact hr
  | j + 9 => exact hr
theorem efold_code (d s b m n : Int) (K : Nat) (hK : 0 < K) : ∀ (fs : List FieldD) (i : Nat) (r : ClassD), (∀ f ∈ fs, f.1.length < K) → r.code.length < K → (efold d s b m n fs i r).1.code.length < K
  | [], _, r, _, hr => hr
  | f :: fs, i, r, h, hr => by
    unfold efold
    have h1 := setF_code d s b m n K hK i f.1 r (h f (by simp)) hr
    split
    · exact h1
    · exact efold_code d s b m n K hK fs (i + 1) _ (fun g hg => h g (by simp [hg])) h1
theorem entryM_code (d s b m n : Int) (K : Nat) (hK : 0 < K) (fs : List FieldD) (h : ∀ f ∈ fs, f.1.length < K) : (entryM d s b m n fs).1.code.length < K := by
  unfold entryM
  split
  · exact hK
  · exact efold_code d s b m n K hK fs 0 zeroC h hK
theorem nine_new (w : World) (r : ClassD) (q : ClassA) : ∀ (j : Nat) (u : Value), (clsVs r q)[j]? = some u → (w.alloc (.cells #[.string (ba r.code), .string (ba r.course), .string (ba r.part), .int .i64 r.len, .slice q.aP r.pats.length q.cP, .int .i64 r.seats, .slice q.aF r.feats.length q.cF, .slice q.aS r.staff.length q.cS, .slice q.aT r.starts.length q.cT] 33)).cell? ((⟨w.heap.size, 0, none⟩ : Addr).add j) = some u := by
  intro j u h
  obtain ⟨k0, k1, k2, k3, k4, k5, k6, k7, k8⟩ := (BoxC.new w #[.string (ba r.code), .string (ba r.course), .string (ba r.part), .int .i64 r.len, .slice q.aP r.pats.length q.cP, .int .i64 r.seats, .slice q.aF r.feats.length q.cF, .slice q.aS r.staff.length q.cS, .slice q.aT r.starts.length q.cT]).cells
  rw [Addr.add_lit]
  match j, h with
  | 0, h => exact k0.trans h
  | 1, h => exact k1.trans h
  | 2, h => exact k2.trans h
  | 3, h => exact k3.trans h
  | 4, h => exact k4.trans h
  | 5, h => exact k5.trans h
  | 6, h => exact k6.trans h
  | 7, h => exact k7.trans h
  | 8, h => exact k8.trans h
  | j + 9, h => simp [clsVs] at h
/-- What reading entries leaves behind. -/
def EntsOut (M : Nat) (o : List ClassD × List ProbD) (w : World) (e : Ending) (w' : World) : Prop := ∃ v1 v2, e = .returned (.tuple #[v1, v2]) ∧ EInv M w o.1 o.2 (codesK o.1) v1 v2 w'
theorem grown_under {w w1 w2 : World} {M : Nat} (h : w.grownBy w1 (some M)) (hb : Below w1.heap.size w1 w2) : w.grownBy w2 (some M) :=
  h.andThen (below_grown hb (Nat.le_refl _)) (fun j hj => by cases hj)
structure CK (d s b m n : Int) (G N KB AB MB M : Nat) (w : World) : Prop where
  g : Box4 w G d s b m
  n : Box1 w N 3 (.int .i64 n)
  d : DistIn w KB AB MB M
  gm : G ≠ M
  nm : N ≠ M
  km : KB ≠ M
  am : AB ≠ M
  mm : MB ≠ M
theorem CK.grown {d s b m n : Int} {G N KB AB MB M : Nat} {w w' : World} (h : CK d s b m n G N KB AB MB M w) (hg : w.grownBy w' (some M)) : CK d s b m n G N KB AB MB M w' := by
  have kb : ∀ k, k < w.heap.size → k ≠ M → w'.heap[k]? = w.heap[k]? := fun k hk hn => hg.block k hk (fun e => hn (Option.some.inj e))
  have hgb := kb _ h.g.lt h.gm
  have hx := h.g
  have kc : ∀ o : Nat, w'.cell? ⟨G, o, none⟩ = w.cell? ⟨G, o, none⟩ := fun o => World.cell?_of_block (w := w) hgb
  exact ⟨⟨(kc 0).trans hx.c0, (kc 1).trans hx.c1, (kc 2).trans hx.c2, (kc 3).trans hx.c3, Nat.lt_of_lt_of_le hx.lt hg.size⟩, h.n.kept (kb _ h.n.lt h.nm),
    h.d.kept (fun k hk => by
      rcases hk with rfl | rfl | rfl
      · exact kb _ h.d.k.lt h.km
      · exact kb _ h.d.a.lt h.am
      · exact kb _ h.d.m.lt h.mm), h.gm, h.nm, h.km, h.am, h.mm⟩

end Go.Proofs.YtigdcgklpapfbaaGreatDoor.S10

