/-
  The walk of Dice.OddCurricula: curricula with one thing changed. Conditions: dice in memory; the curricula lie in a row that was made behind the dice.
  The walk of Dice.OddCurricula. Conditions: dice in memory; the curricula lie in a row that was made behind the dice.
-/
import Derived.Test.YtpaejkhaiifgdaaGreatDoorGN01
import Derived.Test.YtpaejkhaiifgdaaGreatDoorGN02
import Derived.Test.YtpaejkhaiifgdaaGreatDoorGN03
import Derived.Test.YtpaejkhaiifgdaaGreatDoorGN04
import Derived.Test.YtpaejkhaiifgdaaGreatDoorGN05
import Derived.Test.YtpaejkhaiifgdaaGreatDoorGN06
import Derived.Test.YtpaejkhaiifgdaaGreatDoorGN07
import Derived.Test.YtpaejkhaiifgdaaGreatDoorGN08
import Derived.Test.YtpaejkhaiifgdaaGreatDoorGN09
import Derived.Test.YtpaejkhaiifgdaaGreatDoorGN10
import Derived.Test.YtpaejkhaiifgdaaGreatDoorGN11
import Derived.Test.YtpaejkhaiifgdaaGreatDoorGN12
import Derived.Test.YtpaejkhaiifgdaaGreatDoorGN13
import Derived.Test.YtpaejkhaiifgdaaGreatDoorGN14
import Derived.Test.YtpaejkhaiifgdaaGreatDoorGN15
import Derived.Test.YtpaejkhaiifgdaaGreatDoorGN16
import Derived.Test.YtpaejkhaiifgdaaGreatDoorGN17
import Derived.Test.YtpaejkhaiifgdaaGreatDoorGN18
import Derived.Test.YtpaejkhaiifgdaaGreatDoorEN01
import Derived.Test.YtpaejkhaiifgdaaGreatDoorEN02
import Derived.Test.YtpaejkhaiifgdaaGreatDoorEN03
import Derived.Test.YtpaejkhaiifgdaaGreatDoorEN04
import Derived.Test.YtpaejkhaiifgdaaGreatDoorEN05
import Derived.Test.YtpaejkhaiifgdaaGreatDoorEN06
import Derived.Test.YtpaejkhaiifgdaaGreatDoorEN07
import Derived.Test.YtpaejkhaiifgdaaGreatDoorEN08
import Derived.Test.YtpaejkhaiifgdaaGreatDoorEN09
import Derived.Test.YtpaejkhaiifgdaaGreatDoorMN01
import Derived.Test.YtpaejkhaiifgdaaGreatDoorProg
import Derived.WalkKit
import Derived.WalkSpells
import Derived.WalkLawsBesides
import Derived.Lib.Hide
import Derived.Deep.QuietTactic
import Derived.BigQuiet
import Derived.Laws.Rows
import Derived.OwnWalk
import Derived.Lib.BufferWrite
import Derived.Lib.UnsafeStr
import Derived.Laws.IdiomStrings
import Derived.Laws.BytesArg
import Derived.Laws.BytesString
import Derived.Laws.OwnMore
import Derived.Lib.IndexLaws
import Derived.Lib.ItoaNum
import Derived.Lib.Atoi
import Derived.Lib.Bytealg
import Derived.Maps.AppendAt
import Derived.Deep.AppendLies
import Derived.Handy
import Derived.Laws.ResultCell
import Derived.IntWalk
import Derived.Laws.AppendOwn
import Derived.Laws.BitsAllLaws
import Derived.Laws.BitsLemmas
import Derived.Deep.RegionLaw
import Derived.Deep.RegionHeld3
import Derived.RangeFuncNested
import Derived.RangeFuncBound
import Derived.RangeFuncCalls
import Derived.RangeFuncLeaves
import Derived.Shelf.Abstract
import Derived.Shelf.RegionOpen
import Derived.OwnWalkIn
import Derived.Lib.SlTrimSet
import Derived.Shelf.Strings.Builder1
import Derived.Shelf.Strings.Builder2
import Derived.Shelf.Strings.OnBuilder
import Derived.Shelf.Strings.Trim
import Derived.Shelf.Small.Utf8
import Derived.Shelf.Small.Strs
import Derived.Shelf.Strings.BuilderF
import Derived.Shelf.Strings.BuilderK
import Derived.Shelf.Strings.Builder2Cap
import Derived.Shelf.Strconv.Atoi
import Derived.Shelf.Strconv.Itoa0
import Derived.Shelf.Strconv.Itoa1
import Derived.Shelf.LaysM
import Derived.Shelf.Strconv.Itoa2
import Derived.Shelf.Strconv.Itoa3
import Derived.Shelf.Strconv.AtoiErrFast
import Derived.Shelf.Strconv.ParseIntEmpty
import Derived.Shelf.Strconv.AtoiFail
import Derived.Shelf.Strconv.Clone
import Derived.Shelf.Strconv.SyntaxError
import Derived.Shelf.LaysC
import Derived.Shelf.Strconv.ToError
import Derived.Shelf.Strconv.AtoiErr
import Derived.Shelf.Strings.Search1
import Derived.Shelf.Strings.Search2
import Derived.Shelf.Strings.Search3
import Derived.Shelf.Strings.Cut
import Derived.Shelf.Strings.Shaped
import Derived.Shelf.Strings.Prefix
import Derived.Shelf.Strings.Runes
import Derived.Shelf.Strings.AsciiSet
import Derived.Shelf.Bits.Mul64
import Derived.Shelf.Strings.Repeat
import Derived.Shelf.Unicode.DecodeSlow
import Derived.Shelf.Strings.BuilderCap
import Derived.Shelf.Slices.Turned
import Derived.Shelf.Strings.SlTrimAscii
import Derived.Lib.AtoiErrMem
import Derived.RegionTactic
import Derived.Lib.Repeat
import Derived.Lib.SlicesS
import Derived.TacticsInMore
import Derived.LoopNIn
import Derived.LoopIn
import Derived.Maps.OwnSet
import Derived.Maps.Range
import Derived.StillTailTactics
import Derived.RangeFuncBox
import Derived.Deep.DeepCutAuto
import Derived.Lib.Join
import Derived.Laws.Concat
import Derived.Deep.CutBlock
set_option linter.unusedVariables false
namespace Go.Proofs.YtpaejkhaiifgdaaGreatDoor.S11
open Go Go.Proofs Go.RowKit Go.Lib Go.Proofs.YtpaejkhaiifgdaaGreatDoor Go.Proofs.YtpaejkhaiifgdaaGreatDoor.S10

theorem own_set {w : World} {B : Nat} {e : TypeId} {size n cap g : Nat} {xs : List Value} (h : w.ownsRow B e size (.slice (some ⟨g, 0, none⟩) n cap) n xs) (hn : 0 < n) (i : Nat) (u : Value) : (w.setCell ⟨g, i, none⟩ u).ownsRow B e size (.slice (some ⟨g, 0, none⟩) n cap) n (xs.set i u) := by
  obtain ⟨h1, h2⟩ := h
  refine ⟨by rw [List.length_set]; exact h1, ?_⟩
  rcases h2 with ⟨h2, _⟩ | ⟨g', cap', cur, hv, hB, hg, k1, k2, k3, k4⟩
  · injection h2 with h2; injection h2
  · injection hv with hv _ hc
    injection hv with hv
    injection hv with hv
    subst hv hc
    refine .inr ⟨g, cap, _, rfl, hB, heap_setCell_same w g i _ _ _ hg, k1, k2, by simpa using k3, ?_⟩
    rw [Array.toList_setIfInBounds, List.take_set, k4]
theorem currVals_cons (p : CurrD × CurrA) (r : List (CurrD × CurrA)) : currVals (p :: r) = .string (ba p.1.1) :: .slice p.2.1 p.1.2.length p.2.2 :: currVals r := by simp [currVals, currVs]
theorem currVals_set0 : ∀ (LL : List (CurrD × CurrA)) (k : Nat) (h : k < LL.length) (X : Str), (currVals LL).set (k * 2) (.string (ba X)) = currVals (LL.set k ((X, LL[k].1.2), LL[k].2))
  | p :: r, 0, _, X => by rw [currVals_cons]; exact (currVals_cons ((X, p.1.2), p.2) r).symm
  | p :: r, k + 1, h, X => by
    have ih := currVals_set0 r k (by simpa using h) X
    rw [List.set_cons_succ, currVals_cons, currVals_cons, show (k + 1) * 2 = k * 2 + 1 + 1 by omega, List.set_cons_succ, List.set_cons_succ, ih]
    rfl
theorem currVals_set1 : ∀ (LL : List (CurrD × CurrA)) (k : Nat) (h : k < LL.length) (ts : List Str) (q : CurrA), (currVals LL).set (k * 2 + 1) (.slice q.1 ts.length q.2) = currVals (LL.set k ((LL[k].1.1, ts), q))
  | p :: r, 0, _, ts, q => by rw [currVals_cons]; exact (currVals_cons ((p.1.1, ts), q) r).symm
  | p :: r, k + 1, h, ts, q => by
    have ih := currVals_set1 r k (by simpa using h) ts q
    rw [List.set_cons_succ, currVals_cons, currVals_cons, show (k + 1) * 2 + 1 = k * 2 + 1 + 1 + 1 by omega, List.set_cons_succ, List.set_cons_succ, ih]
    rfl
/-- The copy of the curricula, and the dice. -/
structure OS (w0 : World) (g c : Nat) (A : Option Addr) (L : List Int) (LL : List (CurrD × CurrA)) (v : Value) (w : World) : Prop where
  e : ∃ k, DE w0 g c A L k w
  row : w.ownsRow w0.heap.size 41 2 v LL.length (currVals LL)
  r : ∀ p ∈ LL, CurrIn w (fun k => g < k ∧ k < w.heap.size ∧ some k ≠ v.ownBlock) p.1 p.2
  g0 : g < w0.heap.size
section
variable {w0 w w' : World} {g c : Nat} {A : Option Addr} {L : List Int} {LL : List (CurrD × CurrA)} {v v' : Value}
theorem OS.played {k' : Nat} (h : OS w0 g c A L LL v w) (he : DE w g c A L k' w') : OS w0 g c A L LL v w' := by
  obtain ⟨k, h0⟩ := h.e
  have hg := h.g0
  have hz := he.p.size
  exact ⟨⟨k', h0.trans he⟩, he.p.row h.row (fun k hk => by have h1 := World.ownsRow.lt h.row k hk; omega), fun p hp => ((h.r p hp).kept (fun k hk => he.p.block k hk.2.1 (by omega))).mono (fun k hk => ⟨hk.1, by omega, hk.2.2⟩), hg⟩
theorem OS.next (h : OS w0 g c A L LL v w) (k : Below w.heap.size w w') : OS w0 g c A L LL v w' := by
  obtain ⟨j, h0⟩ := h.e
  have hg := h.g0
  have hz := k.size
  have hp0 := h0.p.size
  exact ⟨⟨j, h0.below (k.mono hp0) hg⟩, S3.row_under h.row k, fun p hp => ((h.r p hp).kept (fun i hi => k.block i hi.2.1)).mono (fun i hi => ⟨hi.1, by omega, hi.2.2⟩), hg⟩
theorem OS.dice (h : OS w0 g c A L LL v w) : ∃ k, DiceAt w g A L c k := by
  obtain ⟨k, h0⟩ := h.e
  exact ⟨k, h0.d⟩
end
/-- What OddCurricula hands back. -/
def OddP (g c : Nat) (A : Option Addr) (L : List Int) (w0 : World) (e : Ending) (w' : World) : Prop :=
  ∃ (ls : List CurrD) (A' : Option Addr) (c' : Nat), e = .returned (.slice A' ls.length c') ∧ ls.length ≤ 1000 ∧ CurrsIn w' (fun k => g < k ∧ k < w'.heap.size) A' ls ∧ ∃ k', DE w0 g c A L k' w'
theorem OS.fin {w0 w : World} {g c : Nat} {A : Option Addr} {L : List Int} {LL : List (CurrD × CurrA)} {v : Value} (h : OS w0 g c A L LL v w) (hl : LL.length ≤ 1000) : OddP g c A L w0 (.returned v) w := by
  have hg := h.g0
  have hrow : CurrRow w w0.heap.size (fun k => g < k ∧ k < w.heap.size) v (LL.map (·.1)) := ⟨LL, rfl, by rw [List.length_map]; exact h.row, fun p hp => (h.r p hp).mono (fun k hk => ⟨hk.1, hk.2.1⟩)⟩
  obtain ⟨A', c', rfl, _, _, hin⟩ := hrow.currsIn
  exact ⟨LL.map (·.1), A', c', rfl, by rw [List.length_map]; exact hl, hin.mono (fun k hk => by rcases hk with h | h; exact h; exact ⟨by omega, h.2⟩), h.e⟩
theorem OS.copy {w w' : World} {g c k : Nat} {A : Option Addr} {L : List Int} {LL : List (CurrD × CurrA)} {v' : Value} (h : DiceAt w g A L c k) (hr : ∀ p ∈ LL, CurrIn w (fun k => g < k ∧ k < w.heap.size) p.1 p.2)
    (hown : w'.ownsRow w.heap.size 41 2 v' LL.length (currVals LL)) (hg : w.grownBy w' none) : OS w g c A L LL v' w' := by
  have hb : Below w.heap.size w w' := (Below.refl _ w).grown hg (Nat.le_refl _) (fun k hk => by cases hk)
  have hz := hb.size
  exact ⟨⟨k, (DE.first h).below hb h.lt⟩, hown, fun p hp => ((hr p hp).kept (fun k hk => hb.block k hk.2)).mono (fun k hk => ⟨hk.1, by omega, fun e => by have := World.ownsRow.lt hown k e.symm; omega⟩), h.lt⟩
theorem OS.store {w0 w : World} {g c gv n cap : Nat} {A : Option Addr} {L : List Int} {LL LL' : List (CurrD × CurrA)} {i : Nat} {u : Value} (h : OS w0 g c A L LL (.slice (some ⟨gv, 0, none⟩) n cap) w) (hn : n = LL.length) (hn0 : 0 < n) (hLL : (currVals LL).set i u = currVals LL') (hl : LL'.length = LL.length)
    (hr : ∀ p ∈ LL', p ∈ LL ∨ CurrIn w (fun k => g < k ∧ k < w.heap.size ∧ k ≠ gv) p.1 p.2) : OS w0 g c A L LL' (.slice (some ⟨gv, 0, none⟩) n cap) (w.setCell ⟨gv, i, none⟩ u) := by
  obtain ⟨j, h0⟩ := h.e
  have hg := h.g0
  have hlt := World.ownsRow.lt h.row gv rfl
  have hs : (w.setCell ⟨gv, i, none⟩ u).heap.size = w.heap.size := by simp [World.setCell]
  refine ⟨⟨j, h0.set _ _ _ hlt.1 (by omega)⟩, ?_, fun p hp => ?_, hg⟩
  · rw [hl, ← hLL]
    have h1 := h.row
    rw [← hn] at h1 ⊢
    exact own_set h1 hn0 i u
  · have h1 : CurrIn w (fun k => g < k ∧ k < w.heap.size ∧ k ≠ gv) p.1 p.2 := by
      rcases hr p hp with h1 | h1
      · exact (h.r p h1).mono (fun k hk => ⟨hk.1, hk.2.1, fun e => hk.2.2 (by rw [e]; rfl)⟩)
      · exact h1
    exact (h1.kept (fun k hk => Below.heap_setCell w ⟨gv, i, none⟩ u k hk.2.2)).mono (fun k hk => ⟨hk.1, by rw [hs]; exact hk.2.1, fun e => hk.2.2 (by injection e)⟩)
theorem OS.app {w0 w w' : World} {g c : Nat} {A : Option Addr} {L : List Int} {LL : List (CurrD × CurrA)} {v v' : Value} {p : CurrD × CurrA} (h : OS w0 g c A L LL v w) (hp : p ∈ LL)
    (hown : w'.ownsRow w0.heap.size 41 2 v' (LL.length + 1) (currVals LL ++ currVs p.1 p.2)) (hg : w.grownBy w' v.ownBlock) (hat : v'.ownBlock = v.ownBlock ∨ v'.ownBlock = some w.heap.size) : OS w0 g c A L (LL ++ [p]) v' w' := by
  obtain ⟨j, h0⟩ := h.e
  have hg0 := h.g0
  have hp0 := h0.p.size
  have hs := hg.size
  have hb : Below w0.heap.size w w' := (Below.refl _ w).grown hg hp0 (fun k hk => (World.ownsRow.lt h.row k hk).1)
  have hne : ∀ k, k < w.heap.size → some k ≠ v.ownBlock → some k ≠ v'.ownBlock := by
    intro k hk hne
    rcases hat with e | e
    · rw [e]; exact hne
    · rw [e]; intro e0; injection e0 with e0; omega
  have hq : ∀ p ∈ LL, CurrIn w' (fun k => g < k ∧ k < w'.heap.size ∧ some k ≠ v'.ownBlock) p.1 p.2 := fun p hp => ((h.r p hp).kept (fun k hk => hg.block k hk.2.1 hk.2.2)).mono (fun k hk => ⟨hk.1, by omega, hne k hk.2.1 hk.2.2⟩)
  refine ⟨⟨j, h0.below hb hg0⟩, ?_, fun x hx => ?_, hg0⟩
  · rw [currVals_app, List.length_append, List.length_singleton]
    simpa [currVals] using hown
  · rcases List.mem_append.1 hx with hx | hx
    · exact hq x hx
    · rw [List.mem_singleton] at hx; subst hx; exact hq _ hp
end Go.Proofs.YtpaejkhaiifgdaaGreatDoor.S11

set_option linter.unusedVariables false
namespace Go.Proofs.YtpaejkhaiifgdaaGreatDoor.S11
open Go Go.Proofs Go.RowKit Go.Lib Go.Proofs.YtpaejkhaiifgdaaGreatDoor Go.Proofs.YtpaejkhaiifgdaaGreatDoor.S10

theorem wpList_append_none {P : Program} {w : World} {ops : Array Oper} {rest : List Oper} {o : Oper} {a : Act} {Q : Exit → Act → World → Prop} (hgd : o.guard = none) (s x : Operand) (t : TypeId)
    (ho : o.op = .call { callee := .builtin .append, args := #[s, x], argTypes := #[t, t] })
    (base : Nat) (e : TypeId) (i : TypeInfo) (size : Nat) (ht : P.underlying t = some (.slice e)) (hi : P.info? e = some i)
    (v : Value) (n : Nat) (xs : List Value) (hs : a.eval s = v) (hown : w.ownsRow base e size v n xs) (hx : a.eval x = .slice none 0 0)
    (h : wpList P ops Q rest (a.put o.dst v) w) : wpList P ops Q (o :: rest) a w := by
  refine wpList_plain hgd fun K hK => ?_
  have hr := run_append_owned_none (P := P) (w := w) base t o.type e i size ht hi v n xs hown
  unfold Oper.wp execOp
  simp only [ho, resolve, invoke, builtin, Sem.run_bind, Sem.run_pure, Result.andThen_ok, List.map_toArray, List.map_cons, List.map_nil, hs, hx, hr]
  exact hK _ _ h
/-- The lists of courses out of which one is taken. -/
def oddC (r : Nat) : List Str := if r = 0 then [] else if r = 1 then [[120]] else [[120], [120]]
theorem odd_lists (w : World) : ∃ w3, w3 = ((w.alloc (.cells #[.string ⟨#[120]⟩] 9)).alloc (.cells #[.string ⟨#[120]⟩, .string ⟨#[120]⟩] 9)).alloc (.cells #[.slice none 0 0, .slice (some ⟨w.heap.size, 0, none⟩) 1 1, .slice (some ⟨w.heap.size + 1, 0, none⟩) 2 2] 39) ∧ w3.heap.size = w.heap.size + 3 ∧ Below w.heap.size w w3 ∧
    ∀ r : Nat, r < 3 → ∃ a, w3.cell? ⟨w.heap.size + 2, r, none⟩ = some (.slice a (oddC r).length (oddC r).length) ∧ S3.StrsIn w3 (fun k => w.heap.size ≤ k ∧ k < w.heap.size + 2) a (oddC r) := by
  refine ⟨_, rfl, by simp, (((Below.refl _ w).alloc (Nat.le_refl _) _).alloc (by simp) _).alloc (by simp; omega) _, ?_⟩
  have e1 := heap_alloc_new w (.cells #[.string ⟨#[120]⟩] 9)
  have hs : (w.alloc (.cells #[.string ⟨#[120]⟩] 9)).heap.size = w.heap.size + 1 := by simp
  generalize w.alloc (.cells #[.string ⟨#[120]⟩] 9) = w1 at e1 hs ⊢
  have e2 := heap_alloc_new w1 (.cells #[.string ⟨#[120]⟩, .string ⟨#[120]⟩] 9)
  have e3 := (Below.heap_alloc w1 (.cells #[.string ⟨#[120]⟩, .string ⟨#[120]⟩] 9) w.heap.size (by omega)).trans e1
  have hs2 : (w1.alloc (.cells #[.string ⟨#[120]⟩, .string ⟨#[120]⟩] 9)).heap.size = w.heap.size + 2 := by simp [hs]
  rw [hs] at e2
  generalize w1.alloc (.cells #[.string ⟨#[120]⟩, .string ⟨#[120]⟩] 9) = w2 at e2 e3 hs2 ⊢
  have f0 := heap_alloc_new w2 (.cells #[.slice none 0 0, .slice (some ⟨w.heap.size, 0, none⟩) 1 1, .slice (some ⟨w.heap.size + 1, 0, none⟩) 2 2] 39)
  have f1 := (Below.heap_alloc w2 (.cells #[.slice none 0 0, .slice (some ⟨w.heap.size, 0, none⟩) 1 1, .slice (some ⟨w.heap.size + 1, 0, none⟩) 2 2] 39) w.heap.size (by omega)).trans e3
  have f2 := (Below.heap_alloc w2 (.cells #[.slice none 0 0, .slice (some ⟨w.heap.size, 0, none⟩) 1 1, .slice (some ⟨w.heap.size + 1, 0, none⟩) 2 2] 39) (w.heap.size + 1) (by omega)).trans e2
  rw [hs2] at f0
  intro r hr
  rcases (show r = 0 ∨ r = 1 ∨ r = 2 by omega) with rfl | rfl | rfl
  · exact ⟨none, by rw [Lib.cell_of_heap f0]; rfl, .inl rfl⟩
  · refine ⟨some ⟨w.heap.size, 0, none⟩, by rw [Lib.cell_of_heap f0]; rfl, .inr ⟨w.heap.size, 0, rfl, ⟨Nat.le_refl _, by omega⟩, fun j s hj => ?_⟩⟩
    match j, hj with
    | 0, hj => obtain rfl : [120] = s := by simpa [oddC] using hj
               rw [Lib.cell_of_heap f1]; rfl
    | j + 1, hj => simp [oddC] at hj
  · refine ⟨some ⟨w.heap.size + 1, 0, none⟩, by rw [Lib.cell_of_heap f0]; rfl, .inr ⟨w.heap.size + 1, 0, rfl, ⟨by omega, by omega⟩, fun j s hj => ?_⟩⟩
    match j, hj with
    | 0, hj => obtain rfl : [120] = s := by simpa [oddC] using hj
               rw [Lib.cell_of_heap f2]; rfl
    | 1, hj => obtain rfl : [120] = s := by simpa [oddC] using hj
               rw [Lib.cell_of_heap f2]; rfl
    | j + 2, hj => simp [oddC] at hj
theorem two_names (w : World) (P : Nat → Prop) (hP : P w.heap.size) : S3.StrsIn (w.alloc (.cells #[.string ⟨#[77, 65, 49]⟩, .string ⟨#[110, 111, 110, 101]⟩] 9)) P (some ⟨w.heap.size, 0, none⟩) [[77, 65, 49], [110, 111, 110, 101]] := by
  have e := heap_alloc_new w (.cells #[.string ⟨#[77, 65, 49]⟩, .string ⟨#[110, 111, 110, 101]⟩] 9)
  refine .inr ⟨w.heap.size, 0, rfl, hP, fun j s hj => ?_⟩
  match j, hj with
  | 0, hj => obtain rfl : [77, 65, 49] = s := by simpa using hj
             rw [Lib.cell_of_heap e]; rfl
  | 1, hj => obtain rfl : [110, 111, 110, 101] = s := by simpa using hj
             rw [Lib.cell_of_heap e]; rfl
  | j + 2, hj => simp at hj
set_option maxHeartbeats 16000000 in
set_option maxRecDepth 100000 in
theorem oddCurr_any (g c k B : Nat) (A : Option Addr) (L : List Int) (LL : List (CurrD × CurrA)) (v : Value) (w : World) (h : DiceAt w g A L c k)
    (hrow : w.ownsRow B 41 2 v LL.length (currVals LL)) (hB : g < B) (hr : ∀ p ∈ LL, CurrIn w (fun k => g < k ∧ k < w.heap.size) p.1 p.2) (hlen : LL.length ≤ 100) :
    Calls Tryz.prog 28 #[.pointer (some ⟨g, 0, none⟩), v] w (OddP g c A L w) := by
  obtain ⟨i5, hi5, hz5, hsi5, hby5⟩ := info_parts infoCurr
  have HN : Hid (∀ (W : World) (q : Int), 1 ≤ q → q ≤ 4294967296 → (∃ k, DiceAt W g A L c k) → Calls Tryz.prog 26 #[.pointer (some ⟨g, 0, none⟩), .int .i64 q] W fun e w' => ∃ r : Nat, e = .returned (.int .i64 (r : Int)) ∧ (r : Int) < q ∧ ∃ k', DE W g c A L k' w') := hid (fun W q hq hq2 ⟨k, hd⟩ => by
    refine (next_any g c k A L q hq2 W hd).mono ?_
    rintro e w' ⟨⟨r, rfl, hr⟩, ⟨k', hd'⟩, hR⟩
    obtain ⟨hr0, hr1⟩ := hr hq
    obtain ⟨q0, rfl⟩ : ∃ q : Nat, r = (q : Int) := ⟨r.toNat, by omega⟩
    exact ⟨q0, rfl, hr1, k', (DE.first hd).next hd' hR⟩)
  have hgl := h.lt
  rcases Nat.eq_zero_or_pos LL.length with h0 | h0
  · obtain rfl : LL = [] := List.eq_nil_of_length_eq_zero h0
    have hv : v = .slice none 0 0 ∨ ∃ gv cap, v = .slice (some ⟨gv, 0, none⟩) 0 cap := by
      rcases hrow.2 with ⟨hv, _⟩ | ⟨gv, cap, cur, hv, _⟩
      · exact .inl hv
      · exact .inr ⟨gv, cap, hv⟩
    have HD := hid h
    obtain ⟨w3, hw3, hs3, hb3, hcs⟩ := odd_lists w
    have HB3 := hid hb3
    have HCS := hid hcs
    have HS3 := hid hs3
    clear h hrow hr h0 hlen hb3 hcs
    have fin : ∀ (W : World) (r : Nat) (a : Option Addr) (k' : Nat), DE w g c A L k' W → w.heap.size + 3 ≤ W.heap.size → S3.StrsIn W (fun k => w.heap.size ≤ k ∧ k < w.heap.size + 2) a (oddC r) → OddP g c A L w (.returned (.slice (some ⟨W.heap.size, 0, none⟩) 1 1)) (W.alloc (.cells #[.string ⟨#[97]⟩, .slice a (oddC r).length (oddC r).length] 41)) := fun W r a k' he hz hin => by
      have hb2 := Box2.new W (.string ⟨#[97]⟩) (.slice a (oddC r).length (oddC r).length)
      have hbb := (Below.refl W.heap.size W).alloc (Nat.le_refl _) (.cells #[.string ⟨#[97]⟩, .slice a (oddC r).length (oddC r).length] 41)
      obtain ⟨b0, b1⟩ := hb2.cells
      refine ⟨[([97], oddC r)], some ⟨W.heap.size, 0, none⟩, 1, rfl, by simp, .inr ⟨W.heap.size, 0, rfl, ⟨by omega, hb2.lt⟩, fun j x hj => ?_⟩, k', he.alloc _⟩
      match j, hj with
      | 0, hj =>
        obtain rfl : ([97], oddC r) = x := by simpa using hj
        refine ⟨(a, (oddC r).length), ⟨(hin.kept (fun k hk => hbb.block k (by omega))).mono (fun k hk => ⟨by omega, by have := hbb.size; omega⟩), Nat.le_refl _, by show (oddC r).length ≤ _; unfold oddC; split; decide; split <;> decide⟩, fun i v hv => ?_⟩
        match i, hv with
        | 0, hv => simp [currVs] at hv; subst hv; exact b0
        | 1, hv => simp [currVs] at hv; subst hv; exact b1
        | i + 2, hv => simp [currVs] at hv
      | j + 1, hj => simp at hj
    have FIN := hid fin
    clear fin
    rcases hv with rfl | ⟨gv, cap, rfl⟩
    · go_enter Tryz.func28, Tryz.ntmps28
      go_wp2_with (at_builtin; refine wpList_append_none rfl _ _ 22 rfl w.heap.size 41 i5 2 Tryz.underlying22 hi5 (.slice none 0 0) 0 [] rfl (World.ownsRow_nil _ _ _ _) rfl ?_)
      go_wp2_with fail
      try rw [show w.heap.size + 1 + 1 = w.heap.size + 2 by omega]
      rw [← hw3]
      clear hw3
      have hd2 := (DE.first HD.out).below HB3.out hgl
      refine (HN.out _ 3 (by omega) (by omega) ⟨_, hd2.d⟩).mono ?_
      rintro e w2 ⟨r, rfl, hr3, k2, he2⟩
      have hr3n : r < 3 := by omega
      obtain ⟨a, hS, hin⟩ := HCS.out r hr3n
      have hS2 : w2.cell? ⟨w.heap.size + 2, r, none⟩ = some (.slice a (oddC r).length (oddC r).length) := (World.cell?_of_block (w := w3) (he2.p.block _ (by show w.heap.size + 2 < _; omega) (by show w.heap.size + 2 ≠ g; omega))).trans hS
      have hin2 := hin.kept (w' := w2) (fun k hk => he2.p.block k (by omega) (by omega))
      have hz2 : w.heap.size + 3 ≤ w2.heap.size := by have := he2.p.size; omega
      have HR := hid (FIN.out w2 r a _ (hd2.trans he2) hz2 hin2)
      obtain ⟨N, hN⟩ : ∃ N, (oddC r).length = N := ⟨_, rfl⟩
      rw [hN] at hS2 HR
      clear hd2 he2 hS hin hin2 hN
      go_wp2
      go_ret
      exact HR.out
    · go_enter Tryz.func28, Tryz.ntmps28
      go_wp2_with fail
      try rw [show w.heap.size + 1 + 1 = w.heap.size + 2 by omega]
      rw [← hw3]
      clear hw3
      have hd2 := (DE.first HD.out).below HB3.out hgl
      refine (HN.out _ 3 (by omega) (by omega) ⟨_, hd2.d⟩).mono ?_
      rintro e w2 ⟨r, rfl, hr3, k2, he2⟩
      have hr3n : r < 3 := by omega
      obtain ⟨a, hS, hin⟩ := HCS.out r hr3n
      have hS2 : w2.cell? ⟨w.heap.size + 2, r, none⟩ = some (.slice a (oddC r).length (oddC r).length) := (World.cell?_of_block (w := w3) (he2.p.block _ (by show w.heap.size + 2 < _; omega) (by show w.heap.size + 2 ≠ g; omega))).trans hS
      have hin2 := hin.kept (w' := w2) (fun k hk => he2.p.block k (by omega) (by omega))
      have hz2 : w.heap.size + 3 ≤ w2.heap.size := by have := he2.p.size; omega
      have HR := hid (FIN.out w2 r a _ (hd2.trans he2) hz2 hin2)
      obtain ⟨N, hN⟩ : ∃ N, (oddC r).length = N := ⟨_, rfl⟩
      rw [hN] at hS2 HR
      clear hd2 he2 hS hin hin2 hN
      go_wp2
      go_ret
      exact HR.out
  · obtain ⟨gv, cap, rfl, hBg, hgs⟩ := World.ownsRow.form hrow h0
    have HCV := hid (hrow.cells (g := gv) rfl)
    obtain ⟨n, hn⟩ : ∃ n, LL.length = n := ⟨_, rfl⟩
    have HCP := hid (fun (v' : Value) (w' : World) (hown : w'.ownsRow w.heap.size 41 2 v' LL.length (currVals LL)) (hg : w.grownBy w' none) => OS.copy h hr hown hg)
    rw [hn] at HCP h0 hlen ⊢
    have HLL := hid hn
    have HM1 : Hid (0 + n ≤ maxLen) := hid (by unfold maxLen; omega)
    have HM2 : Hid ((0 + n) * 40 ≤ 140737488355328) := hid (by omega)
    have HM3 : Hid (n + 1 ≤ maxLen) := hid (by unfold maxLen; omega)
    have HM4 : Hid ((n + 1) * 40 ≤ 140737488355328) := hid (by omega)
    have HVL : Hid ((currVals LL).length = n * 2) := hid (by rw [currVals_len, hn])
    clear h hrow hr hn
    go_enter Tryz.func28, Tryz.ntmps28
    go_wp2_with (at_builtin; refine wpList_append_own_at _ rfl _ _ 22 rfl w.heap.size 41 i5 (.agg #[.string ⟨#[]⟩, .slice none 0 0]) 2 40 Tryz.underlying22 hi5 hz5 hsi5 hby5 rfl (by decide) (.slice none 0 0) 0 [] rfl (World.ownsRow_nil _ _ _ _) ⟨gv, 0, none⟩ n cap (currVals LL) rfl HVL.out HCV.out (currVals_one LL) HM1.out HM2.out (Nat.le_refl _) ?_)
    intro v' w1 hown hgrow hnil hat
    obtain ⟨g1, cap1, rfl, hg1w, hg1s⟩ := World.ownsRow.form hown h0
    have HOS := hid (HCP.out _ _ hown hgrow)
    clear hown hgrow hnil hat HCP HCV HM1 HM2 HVL
    have hne : ((n : Int) == 0) = false := by simp; omega
    go_wp2_with fail
    refine (HN.out _ (n : Int) (by omega) (by omega) HOS.out.dice).mono ?_
    rintro e w2 ⟨k1, rfl, hk1, kk2, he2⟩
    have HOS2 := hid (HOS.out.played he2)
    clear he2 HOS
    have hk1n : k1 < n := by omega
    go_wp2_with fail
    refine (HN.out _ 4 (by omega) (by omega) HOS2.out.dice).mono ?_
    rintro e w3 ⟨r, rfl, hr3, kk3, he3⟩
    have HOS3 := hid (HOS2.out.played he3)
    clear he3 HOS2
    have hkl : k1 < LL.length := by rw [HLL.out]; exact hk1n
    have hrow3 := HOS3.out.row
    rw [HLL.out] at hrow3
    have hf0 := own_free hrow3 (k1 * 2)
    have hf1 := own_free hrow3 (k1 * 2 + 1)
    have hc0 := hrow3.cells (g := g1) rfl (k1 * 2) _ (currVals_get LL k1 _ (List.getElem?_eq_getElem hkl) 0 _ rfl)
    have hc1 := hrow3.cells (g := g1) rfl (k1 * 2 + 1) _ (currVals_get LL k1 _ (List.getElem?_eq_getElem hkl) 1 _ rfl)
    rw [Addr.add_lit, Nat.zero_add] at hc0 hc1
    have HROW := hid hrow3
    clear hrow3
    rcases (show r = 0 ∨ r = 1 ∨ r = 2 ∨ r = 3 by omega) with rfl | rfl | rfl | rfl
    · have HF : Hid (OddP g c A L w (.returned (.slice (some ⟨g1, 0, none⟩) n cap1)) (w3.setCell ⟨g1, k1 * 2, none⟩ (.string ⟨#[]⟩))) := hid (OS.fin (OS.store HOS3.out HLL.out.symm h0 (currVals_set0 LL k1 hkl []) (by simp) (fun p hp => by
        rcases List.mem_or_eq_of_mem_set hp with h | rfl
        · exact .inl h
        · have h1 := HOS3.out.r _ (List.getElem_mem hkl)
          exact .inr ⟨(h1.mono (fun k hk => ⟨hk.1, hk.2.1, fun e => hk.2.2 (by rw [e]; rfl)⟩)).t, h1.t1, h1.t2⟩)) (by rw [List.length_set, HLL.out]; omega))
      go_wp2
      go_ret
      exact HF.out
    · have HF : Hid (OddP g c A L w (.returned (.slice (some ⟨g1, 0, none⟩) n cap1)) (w3.setCell ⟨g1, k1 * 2 + 1, none⟩ (.slice none 0 0))) := hid (OS.fin (OS.store HOS3.out HLL.out.symm h0 (currVals_set1 LL k1 hkl [] (none, 0)) (by simp) (fun p hp => by
        rcases List.mem_or_eq_of_mem_set hp with h | rfl
        · exact .inl h
        · exact .inr ⟨.inl rfl, Nat.le_refl _, by show (0 : Nat) ≤ _; omega⟩)) (by rw [List.length_set, HLL.out]; omega))
      go_wp2
      go_ret
      exact HF.out
    · obtain ⟨W, hW⟩ : ∃ W, w3.alloc (.cells #[.string ⟨#[77, 65, 49]⟩, .string ⟨#[110, 111, 110, 101]⟩] 9) = W := ⟨_, rfl⟩
      have hts := two_names w3
      have hzW : W.heap.size = w3.heap.size + 1 := by rw [← hW]; simp
      rw [hW] at hts
      have HOW : Hid (OS w g c A L LL (.slice (some ⟨g1, 0, none⟩) n cap1) W) := hid (by rw [← hW]; exact HOS3.out.next ((Below.refl _ w3).alloc (Nat.le_refl _) _))
      have hg4 := (World.ownsRow.lt HOS3.out.row g1 rfl)
      have hgg := HOS3.out.g0
      have hrowW := HOW.out.row
      rw [HLL.out] at hrowW
      have hf1 := own_free hrowW (k1 * 2 + 1)
      have hc1 := hrowW.cells (g := g1) rfl (k1 * 2 + 1) _ (currVals_get LL k1 _ (List.getElem?_eq_getElem hkl) 1 _ rfl)
      rw [Addr.add_lit, Nat.zero_add] at hc1
      have HF : Hid (OddP g c A L w (.returned (.slice (some ⟨g1, 0, none⟩) n cap1)) (W.setCell ⟨g1, k1 * 2 + 1, none⟩ (.slice (some ⟨w3.heap.size, 0, none⟩) 2 2))) := hid (OS.fin (OS.store HOW.out HLL.out.symm h0 (currVals_set1 LL k1 hkl [[77, 65, 49], [110, 111, 110, 101]] (some ⟨w3.heap.size, 0, none⟩, 2)) (by simp) (fun p hp => by
        rcases List.mem_or_eq_of_mem_set hp with h | rfl
        · exact .inl h
        · exact .inr ⟨hts _ ⟨by omega, by omega, by omega⟩, Nat.le_refl _, by show (2 : Nat) ≤ _; omega⟩)) (by rw [List.length_set, HLL.out]; omega))
      clear hts hrowW HOW HOS3 HROW hf0 hc0
      go_wp2_with fail
      (try rw [hW])
      go_wp2
      go_ret
      exact HF.out
    · obtain ⟨p, hp⟩ : ∃ p, LL[k1] = p := ⟨_, rfl⟩
      have hpm : p ∈ LL := by rw [← hp]; exact List.getElem_mem hkl
      rw [hp] at hc0 hc1
      have hpc : Hid (∀ (j : Nat) (u : Value), [Value.string (ba p.1.1), .slice p.2.1 p.1.2.length p.2.2][j]? = some u → (w3.alloc (.cells #[.string (ba p.1.1), .slice p.2.1 p.1.2.length p.2.2] 41)).cell? ((⟨w3.heap.size, 0, none⟩ : Addr).add j) = some u) := hid (two_cells w3 _ _)
      have HZ : Hid (w.heap.size ≤ (w3.alloc (.cells #[.string (ba p.1.1), .slice p.2.1 p.1.2.length p.2.2] 41)).heap.size) := hid (by obtain ⟨_, h0⟩ := HOS3.out.e; have := h0.p.size; simp; omega)
      have HON := hid (curr_one p.1 p.2)
      have HOW := hid (HOS3.out.next ((Below.refl _ w3).alloc (Nat.le_refl _) (.cells #[.string (ba p.1.1), .slice p.2.1 p.1.2.length p.2.2] 41)))
      have hrowW := HOW.out.row
      rw [HLL.out] at hrowW
      have HRW := hid hrowW
      clear hrowW
      go_wp2_with (at_builtin; refine wpList_append_own_at _ rfl _ _ 22 rfl w.heap.size 41 i5 (.agg #[.string ⟨#[]⟩, .slice none 0 0]) 2 40 Tryz.underlying22 hi5 hz5 hsi5 hby5 rfl (by decide) (.slice (some ⟨g1, 0, none⟩) n cap1) n (currVals LL) rfl HRW.out ⟨w3.heap.size, 0, none⟩ 1 1 [Value.string (ba p.1.1), .slice p.2.1 p.1.2.length p.2.2] rfl rfl hpc.out HON.out HM3.out HM4.out HZ.out ?_)
      intro v' w5 hown hgrow hnil hat
      have HF : Hid (OddP g c A L w (.returned v') w5) := hid (OS.fin (OS.app HOW.out hpm (by rw [HLL.out]; exact hown) hgrow (by simpa using hat)) (by simp; have := HLL.out; omega))
      clear hown hgrow hnil hat HRW HOW HOS3 HROW
      go_wp2
      go_ret
      exact HF.out
end Go.Proofs.YtpaejkhaiifgdaaGreatDoor.S11

