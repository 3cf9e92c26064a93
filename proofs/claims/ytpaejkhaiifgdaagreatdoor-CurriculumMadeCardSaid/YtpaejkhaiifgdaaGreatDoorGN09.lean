/-
  What holds while curricula are read out of records. Conditions: as stated.
  The program's List: its walk. Conditions: the library's variables hold what its text lays; the string has fewer than 2^32 - 15 bytes.
  One field of a curriculum: readCourses, readField. Conditions: the variables hold what their text lays; the field is below 2^32 bytes.
  An entry out of the fields of a record: readEntry, of curricula, given what readField does with one field. Conditions: the fields lie in memory.
  The program's Join: its contract (joinM). Conditions: the library's variables hold what its text lays; the list of strings lies in memory.
  Lists of curricula: Check of package entries, Valid of curriculum. Conditions: the curricula lie in memory.
-/
import Derived.Test.YtpaejkhaiifgdaaGreatDoorGN01
import Derived.Test.YtpaejkhaiifgdaaGreatDoorGN02
import Derived.Test.YtpaejkhaiifgdaaGreatDoorGN03
import Derived.Test.YtpaejkhaiifgdaaGreatDoorGN04
import Derived.Test.YtpaejkhaiifgdaaGreatDoorGN06
import Derived.Test.YtpaejkhaiifgdaaGreatDoorGN07
import Derived.Test.YtpaejkhaiifgdaaGreatDoorGN08
import Derived.Test.YtpaejkhaiifgdaaGreatDoorProg
import Derived.WalkKit
import Derived.WalkSpells
import Derived.WalkLawsBesides
import Derived.Lib.Hide
import Derived.Deep.QuietTactic
import Derived.BigQuiet
import Derived.Laws.Rows
import Derived.OwnWalk
import Derived.Lib.BufferWrite
import Derived.Lib.UnsafeStr
import Derived.Laws.IdiomStrings
import Derived.Laws.BytesArg
import Derived.Laws.BytesString
import Derived.Laws.OwnMore
import Derived.Lib.IndexLaws
import Derived.Lib.ItoaNum
import Derived.Lib.Atoi
import Derived.Lib.Bytealg
import Derived.RangeFuncNested
import Derived.RangeFuncBound
import Derived.RangeFuncCalls
import Derived.RangeFuncLeaves
import Derived.Shelf.Abstract
import Derived.Shelf.RegionOpen
import Derived.OwnWalkIn
import Derived.Lib.SlTrimSet
import Derived.Shelf.Strings.Builder1
import Derived.Shelf.Strings.Builder2
import Derived.Shelf.Strings.OnBuilder
import Derived.Shelf.Strings.Trim
import Derived.Shelf.Small.Utf8
import Derived.Shelf.Small.Strs
import Derived.Shelf.Strings.BuilderF
import Derived.Shelf.Strings.BuilderK
import Derived.Shelf.Strings.Builder2Cap
import Derived.Shelf.Strconv.Atoi
import Derived.Shelf.Strconv.Itoa0
import Derived.Shelf.Strconv.Itoa1
import Derived.Shelf.LaysM
import Derived.Shelf.Strconv.Itoa2
import Derived.Shelf.Strconv.Itoa3
import Derived.Shelf.Strconv.AtoiErrFast
import Derived.Shelf.Strconv.ParseIntEmpty
import Derived.Shelf.Strconv.AtoiFail
import Derived.Shelf.Strconv.Clone
import Derived.Shelf.Strconv.SyntaxError
import Derived.Shelf.LaysC
import Derived.Shelf.Strconv.ToError
import Derived.Shelf.Strconv.AtoiErr
import Derived.Shelf.Strings.Search1
import Derived.Shelf.Strings.Search2
import Derived.Shelf.Strings.Search3
import Derived.Shelf.Strings.Cut
import Derived.Shelf.Strings.Shaped
import Derived.Shelf.Strings.Prefix
import Derived.Shelf.Strings.Runes
import Derived.Shelf.Strings.AsciiSet
import Derived.Shelf.Bits.Mul64
import Derived.Shelf.Strings.Repeat
import Derived.Shelf.Unicode.DecodeSlow
import Derived.Shelf.Strings.BuilderCap
import Derived.Shelf.Slices.Turned
import Derived.Shelf.Strings.SlTrimAscii
import Derived.Lib.AtoiErrMem
import Derived.Handy
import Derived.Laws.ResultCell
import Derived.RegionTactic
import Derived.Lib.Repeat
import Derived.Deep.RegionHeld3
import Derived.Lib.SlicesS
import Derived.TacticsInMore
import Derived.LoopNIn
import Derived.LoopIn
import Derived.Maps.OwnSet
import Derived.Maps.Range
import Derived.Deep.RegionLaw
import Derived.Deep.DeepCutAuto
import Derived.Lib.Join
import Derived.Laws.Concat
set_option linter.unusedVariables false
namespace Go.Proofs.YtpaejkhaiifgdaaGreatDoor.S11
open Go Go.Proofs Go.RowKit Go.Lib Go.Proofs.YtpaejkhaiifgdaaGreatDoor

structure EInv (M : Nat) (w : World) (rs : List CurrD) (ps : List ProbD) (cs : List Str) (v1 v2 : Value) (W : World) : Prop where
  row : ∃ Lr : List (CurrD × CurrA), Lr.map (·.1) = rs ∧ W.ownsRow w.heap.size 41 2 v1 Lr.length (currVals Lr) ∧ ∀ p ∈ Lr, CurrIn W (fun k => w.heap.size ≤ k ∧ k < W.heap.size ∧ some k ≠ v1.ownBlock ∧ some k ≠ v2.ownBlock) p.1 p.2
  probs : ProbsRow W w.heap.size v2 ps
  map : KMap W M cs
  gr : w.grownBy W (some M)
theorem EInv.start {M : Nat} {w : World} (h : KMap w M []) : EInv M w [] [] [] (.slice none 0 0) (.slice none 0 0) w :=
  ⟨⟨[], rfl, World.ownsRow_nil _ _ _ _, fun p hp => by simp at hp⟩, World.ownsRow_nil _ _ _ _, h, grown_none (below_grown (Below.refl _ w) (Nat.le_refl _))⟩
theorem EInv.below {M : Nat} {w W : World} {rs : List CurrD} {ps : List ProbD} {cs : List Str} {v1 v2 : Value} (h : EInv M w rs ps cs v1 v2 W) (hM : M < w.heap.size) : Below M w W :=
  ⟨h.gr.os, h.gr.tape, h.gr.output, h.gr.size, fun k hk => h.gr.block k (by omega) (fun e => by injection e with e; omega)⟩
section
variable {M : Nat} {w W W' : World} {rs : List CurrD} {ps : List ProbD} {cs cs' : List Str} {v1 v2 : Value}
/-- A call in between, which turns nothing but the map at most. -/
theorem EInv.past (h : EInv M w rs ps cs v1 v2 W) (hM : M < w.heap.size) (hg : W.grownBy W' (some M)) (hk : KMap W' M cs') : EInv M w rs ps cs' v1 v2 W' := by
  obtain ⟨⟨Lr, hL, ho, hr⟩, hp, _, hb⟩ := h
  have hs := hg.size
  have hbs := hb.size
  have e1 : some M ≠ v1.ownBlock := fun e => by have := (own_lt ho M e.symm).1; omega
  have e2 : some M ≠ v2.ownBlock := fun e => by have := (own_lt hp M e.symm).1; omega
  refine ⟨⟨Lr, hL, World.ownsRow.kept ho hg (.inr fun e => e1 e.symm), fun p hp' => ?_⟩, World.ownsRow.kept hp hg (.inr fun e => e2 e.symm), hk, hb.andThen hg (fun j hj => .inr hj)⟩
  exact ((hr p hp').kept (fun k hk => hg.block k hk.2.1 (fun e => by injection e; omega))).mono (fun k hk => ⟨hk.1, by omega, hk.2.2⟩)
theorem EInv.under (h : EInv M w rs ps cs v1 v2 W) (hM : M < w.heap.size) (hb : Below W.heap.size W W') : EInv M w rs ps cs v1 v2 W' :=
  h.past hM (grown_none ⟨hb.os, hb.tape, hb.output, hb.size, fun k hk _ => hb.block k hk⟩) (h.map.below hb)
/-- One problem more. -/
theorem EInv.prob {v2' : Value} {p : ProbD} (h : EInv M w rs ps cs v1 v2 W) (hM : M < w.heap.size) (hown : ProbsRow W' w.heap.size v2' (ps ++ [p])) (hg : W.grownBy W' v2.ownBlock) (hat : v2'.ownBlock = v2.ownBlock ∨ ∃ k, v2'.ownBlock = some k ∧ W.heap.size ≤ k) : EInv M w rs (ps ++ [p]) cs v1 v2' W' := by
  obtain ⟨⟨Lr, hL, ho, hr⟩, hp, hk, hb⟩ := h
  have hs := hg.size
  have hbs := hb.size
  have e2 : some M ≠ v2.ownBlock := fun e => by have := (own_lt hp M e.symm).1; omega
  refine ⟨⟨Lr, hL, World.ownsRow.kept ho hg (kinds_ne ho hp (by decide)), fun p hp' => ?_⟩, hown, hk.kept hg e2, hb.andThen hg (fun j hj => .inl (own_lt hp j hj).1)⟩
  refine ((hr p hp').kept (fun k hk => hg.block k hk.2.1 hk.2.2.2)).mono (fun k hk => ⟨hk.1, by omega, hk.2.2.1, ?_⟩)
  rcases hat with e | ⟨j, e, hj⟩
  · rw [e]; exact hk.2.2.2
  · rw [e]; intro e0; injection e0 with e0; have := hk.2.1; omega
/-- One room more. -/
theorem EInv.room {v1' : Value} {r : CurrD} {q : CurrA} {C : Nat} (h : EInv M w rs ps cs v1 v2 W) (hM : M < w.heap.size)
    (hr' : CurrIn W (fun k => C ≤ k ∧ k < W.heap.size) r q) (hC : w.heap.size ≤ C) (h1 : ∀ k, v1.ownBlock = some k → k < C) (h2 : ∀ k, v2.ownBlock = some k → k < C)
    {Lr : List (CurrD × CurrA)} (hL : Lr.map (·.1) = rs) (ho : W.ownsRow w.heap.size 41 2 v1 Lr.length (currVals Lr)) (hr : ∀ p ∈ Lr, CurrIn W (fun k => w.heap.size ≤ k ∧ k < W.heap.size ∧ some k ≠ v1.ownBlock ∧ some k ≠ v2.ownBlock) p.1 p.2)
    (hown : W'.ownsRow w.heap.size 41 2 v1' (Lr.length + 1) (currVals Lr ++ currVs r q))
    (hg : W.grownBy W' v1.ownBlock) (hat : v1'.ownBlock = v1.ownBlock ∨ ∃ k, v1'.ownBlock = some k ∧ W.heap.size ≤ k) : EInv M w (rs ++ [r]) ps cs v1' v2 W' := by
  obtain ⟨_, hp, hk, hb⟩ := h
  have hs := hg.size
  have hbs := hb.size
  have e1 : some M ≠ v1.ownBlock := fun e => by have := (own_lt ho M e.symm).1; omega
  have hne : ∀ k, k < W.heap.size → some k ≠ v1.ownBlock → some k ≠ v1'.ownBlock := by
    intro k hk hne
    rcases hat with e | ⟨j, e, hj⟩
    · rw [e]; exact hne
    · rw [e]; intro e0; injection e0 with e0; omega
  refine ⟨⟨Lr ++ [(r, q)], by rw [List.map_append, hL]; rfl, ?_, fun p hp' => ?_⟩, World.ownsRow.kept hp hg (kinds_ne hp ho (by decide)), hk.kept hg e1, hb.andThen hg (fun j hj => .inl (own_lt ho j hj).1)⟩
  · rw [currVals_app, List.length_append, List.length_singleton]
    simpa [currVals] using hown
  · rcases List.mem_append.1 hp' with hp' | hp'
    · exact ((hr p hp').kept (fun k hk => hg.block k hk.2.1 hk.2.2.1)).mono (fun k hk => ⟨hk.1, by omega, hne k hk.2.1 hk.2.2.1, hk.2.2.2⟩)
    · rw [List.mem_singleton] at hp'
      subst hp'
      have k1 : ∀ k, C ≤ k → some k ≠ v1.ownBlock := fun k hk e => by have := h1 k e.symm; omega
      have k2 : ∀ k, C ≤ k → some k ≠ v2.ownBlock := fun k hk e => by have := h2 k e.symm; omega
      exact (hr'.kept (fun k hk => hg.block k hk.2 (k1 k hk.1))).mono (fun k hk => ⟨by omega, by omega, hne k hk.2 (k1 k hk.1), k2 k hk.1⟩)
end
theorem setF_code (K : Nat) (hK : 0 < K) (i : Nat) (x : Str) (r : CurrD) (hx : x.length < K) (hr : r.1.length < K) : (setF i x r).1.1.length < K := by
  match i with
  | 0 => simp only [setF]; split <;> simp_all
  | 1 => exact hr
  | j + 2 => exact hr
theorem efold_code (K : Nat) (hK : 0 < K) : ∀ (fs : List FieldD) (i : Nat) (r : CurrD), (∀ f ∈ fs, f.1.length < K) → r.1.length < K → (efold fs i r).1.1.length < K
  | [], _, r, _, hr => hr
  | f :: fs, i, r, h, hr => by
    unfold efold
    have h1 := setF_code K hK i f.1 r (h f (by simp)) hr
    split
    · exact h1
    · exact efold_code K hK fs (i + 1) _ (fun g hg => h g (by simp [hg])) h1
theorem entryM_code (K : Nat) (hK : 0 < K) (fs : List FieldD) (h : ∀ f ∈ fs, f.1.length < K) : (entryM fs).1.1.length < K := by
  unfold entryM
  split
  · exact hK
  · exact efold_code K hK fs 0 zeroR h hK
theorem two_new (w : World) (r : CurrD) (q : CurrA) : ∀ (j : Nat) (u : Value), (currVs r q)[j]? = some u → (w.alloc (.cells #[.string (ba r.1), .slice q.1 r.2.length q.2] 41)).cell? ((⟨w.heap.size, 0, none⟩ : Addr).add j) = some u := by
  intro j u h
  obtain ⟨k0, k1⟩ := (Box2.new w (.string (ba r.1)) (.slice q.1 r.2.length q.2)).cells
  rw [Addr.add_lit]
  match j, h with
  | 0, h => exact k0.trans h
  | 1, h => exact k1.trans h
  | j + 2, h => simp [currVs] at h
theorem curr_one (r : CurrD) (q : CurrA) : ∀ u ∈ currVs r q, u.oneCell' = true := by
  intro u hu
  simp [currVs] at hu
  rcases hu with rfl | rfl <;> rfl
/-- What reading entries leaves behind. -/
def EntsOut (M : Nat) (o : List CurrD × List ProbD) (w : World) (e : Ending) (w' : World) : Prop := ∃ v1 v2, e = .returned (.tuple #[v1, v2]) ∧ EInv M w o.1 o.2 (codesU o.1) v1 v2 w'
end Go.Proofs.YtpaejkhaiifgdaaGreatDoor.S11

set_option linter.unusedVariables false
namespace Go.Proofs.YtpaejkhaiifgdaaGreatDoor.S3
open Go Go.Proofs Go.RowKit Go.Lib
attribute [local go_sem] Oper.semAt_some

/-- What List hands back. -/
def ListOut (r : List Str × Int) (w : World) (e : Ending) (w' : World) : Prop := (∃ v, e = .returned (.tuple #[v, .int .i64 r.2]) ∧ StrRow w' w.heap.size v r.1) ∧ Below w.heap.size w w'

theorem Boxed.under {W W2 : World} {B : Nat} {t : TypeId} {v : Value} (h : Boxed W B t v) (hb : Below W.heap.size W W2) : Boxed W2 B t v := (hb.block _ h.lt).trans h
theorem keeps_below {W W2 : World} (hb : Below W.heap.size W W2) : KeepsOthers W W2 := ⟨hb.size, fun k o hk _ => (hb.block k (Array.getElem?_eq_some_iff.1 hk).1).trans hk⟩
/-- A round has gone on. -/
theorem LInv.step {N : Nat} {w : World} {pre : List Str} {r : ByteArray} {W W2 w3 : World} {v v' : Value} {L L' : List Str} {x : Str} (h : LInv N w (pre, r) W) (hN : N ≤ w.heap.size) (hb : Below W.heap.size W W2) (hv : Boxed W (N + 2) 39 v)
    (hrow2 : StrRow W2 (N + 6) v L) (hg : W2.grownBy w3 v.ownBlock) (hown : StrRow w3 (N + 6) v' L') (hx : listGo (pre ++ [x]) [] = (L', 0)) (hl : L'.length ≤ 64) (B0 : Nat) :
    LInv N w (pre ++ [x], r) (w3.setCell ⟨N + 2, 0, none⟩ v') ∧ KeepsFrom B0 W (w3.setCell ⟨N + 2, 0, none⟩ v') := by
  have hs := h.below.size
  have hlt := hrow2.lt
  have hlt' := hown.lt
  have hne : ∀ B, B < N + 6 → some B ≠ v.ownBlock := fun B hB e => by have := hlt B e.symm; omega
  have hg2 := grownBy_setCell' w3 (N + 2) v'
  have hne2 : ∀ B, B ≠ N + 2 → some B ≠ some (N + 2) := fun B hB e => hB (by injection e)
  have up : ∀ {B : Nat} {t : TypeId} {u : Value}, Boxed W B t u → B < N + 6 → B ≠ N + 2 → Boxed (w3.setCell ⟨N + 2, 0, none⟩ v') B t u := fun hu h6 h2 => ((Boxed.under hu hb).kept hg (hne _ h6)).kept hg2 (hne2 _ h2)
  have hv3 : Boxed w3 (N + 2) 39 v := (Boxed.under hv hb).kept hg (hne _ (by omega))
  have hsz := h.size
  have hb3 : Below N w (w3.setCell ⟨N + 2, 0, none⟩ v') := ((h.below.trans (hb.mono (by omega))).grown hg (by have := hb.size; omega) (fun k hk => by have := hlt k hk; omega)).grown hg2 (by have := hb.size; have := hg.size; omega) (fun k e => by injection e; omega)
  refine ⟨⟨hb3, ?_, up h.r1 (by omega) (by omega), up h.r2 (by omega) (by omega), up h.v1 (by omega) (by omega), up h.v2 (by omega) (by omega), up h.v3 (by omega) (by omega), ⟨v', hv3.set v', ?_⟩, by rw [hx], by rw [hx]; exact hl⟩, ?_⟩
  · have := hb.size; have := hg.size; have := hg2.size; omega
  · rw [hx]
    exact World.ownsRow.kept hown hg2 (.inr fun e => by have := hlt' _ e; omega)
  · refine (((keeps_below hb).trans (KeepsOthers.of_grownBy hg fun j o ej hj => ?_)).trans (KeepsOthers.setCell _ _ _)).from _
    obtain ⟨c, hc⟩ := row_kind9 hrow2 j ej
    rw [hc] at hj
    cases hj
    rfl

theorem box_at {W : World} {n : Nat} (h : W.heap.size = n) (t : TypeId) (v : Value) : Boxed (W.alloc (.cells #[v] t)) n t v := by subst h; exact Boxed.new W t v
/-- Both results stored, the mark taken. -/
theorem list_end {N D : Nat} {W : World} {u0 u1 v e : Value} (h1 : Boxed W N 39 u0) (h2 : Boxed W (N + 1) 30 u1) (hD : N + 6 ≤ D) (hK : W.heap[D]? = some (.deferred (some []))) :
    ((W.setCell ⟨N, 0, none⟩ v).setCell ⟨N + 1, 0, none⟩ e).heap[D]? = some (.deferred (some [])) ∧
    Boxed (((W.setCell ⟨N, 0, none⟩ v).setCell ⟨N + 1, 0, none⟩ e).putObj D (.deferred none)) N 39 v ∧ Boxed (((W.setCell ⟨N, 0, none⟩ v).setCell ⟨N + 1, 0, none⟩ e).putObj D (.deferred none)) (N + 1) 30 e ∧
    Below N W (((W.setCell ⟨N, 0, none⟩ v).setCell ⟨N + 1, 0, none⟩ e).putObj D (.deferred none)) ∧
    (∀ u n xs, W.ownsRow (N + 6) 9 1 u n xs → (((W.setCell ⟨N, 0, none⟩ v).setCell ⟨N + 1, 0, none⟩ e).putObj D (.deferred none)).ownsRow (N + 6) 9 1 u n xs) := by
  have hg1 := grownBy_setCell' W N v
  have hg2 := grownBy_setCell' (W.setCell ⟨N, 0, none⟩ v) (N + 1) e
  have hg3 := grownBy_putObj' ((W.setCell ⟨N, 0, none⟩ v).setCell ⟨N + 1, 0, none⟩ e) D (.deferred none)
  have hne : ∀ a b : Nat, a ≠ b → some a ≠ some b := fun a b h e => h (by injection e)
  have hlt := h2.lt
  have k0 : ((W.setCell ⟨N, 0, none⟩ v).setCell ⟨N + 1, 0, none⟩ e).heap[D]? = some (.deferred (some [])) := (KeepsOthers.setCell _ _ _).same D _ ((KeepsOthers.setCell W _ _).same D _ hK rfl) rfl
  refine ⟨k0, ((h1.set v).kept hg2 (hne _ _ (by omega))).kept hg3 (hne _ _ (by omega)), ((h2.kept hg1 (hne _ _ (by omega))).set e).kept hg3 (hne _ _ (by omega)), ?_, ?_⟩
  · exact (((Below.refl N W).grown hg1 (by omega) (fun k e => by injection e; omega)).grown hg2 (by have := hg1.size; omega) (fun k e => by injection e; omega)).grown hg3 (by have := hg1.size; have := hg2.size; omega) (fun k e => by injection e; omega)
  · intro u n xs h
    have := h.lt
    exact ownsRow_putObj (World.ownsRow.kept (World.ownsRow.kept h hg1 (.inr fun e => by have := this _ e; omega)) hg2 (.inr fun e => by have := this _ e; omega)) _ k0 rfl

set_option maxHeartbeats 8000000 in
set_option maxRecDepth 100000 in
theorem list_any (s : ByteArray) (hs : s.size < 4294967281) (w : World) (hE : Env w) : Calls Tryz.prog 72 #[.string s] w (ListOut (listM (lst s)) w) := by
  refine (callsIn_wide (n := 9)).1 ?_
  refine callsIn_of_wp_marks Tryz.func72 rfl trivial ?_ rfl
  simp only [Tryz.ntmps72, List.size_toArray, List.length_cons, List.length_nil, Nat.reduceAdd, Nat.reduceSub, Array.replicate_succ, Array.replicate_zero, List.push_toArray, List.append_toArray, List.nil_append, List.cons_append]
  by_cases h0 : 0 < s.size
  · obtain ⟨x1, x2, x3, x4⟩ := str_no h0
    have hne := lst_ne h0
    gi_wp2_with fail
    refine ⟨trivial, ?_⟩
    refine (callsIn_wide.2 (splitSeq_any s _)).mono ?_
    rintro e w' ⟨rfl, rfl⟩
    gi_wp2
    obtain ⟨W0, hW0⟩ : ∃ W0, ((((((w.alloc (Obj.cells #[Value.slice none 0 0] 39)).alloc (Obj.cells #[Value.int IntKind.i64 0] 30)).alloc (Obj.cells #[Value.slice none 0 0] 39)).alloc (Obj.cells #[Value.string s] 9)).alloc (Obj.cells #[Value.string { data := #[59] }] 9)).alloc (Obj.cells #[Value.int IntKind.i64 0] 3)) = W0 := ⟨_, rfl⟩
    rw [hW0]
    have hI0 : LInv w.heap.size w ([], s) W0 := by
      rw [← hW0]
      exact ⟨((((((Below.refl _ w).alloc (Nat.le_refl _) _).alloc (by simp) _).alloc (by simp; omega) _).alloc (by simp; omega) _).alloc (by simp; omega) _).alloc (by simp; omega) _, by simp,
        (((((box_at rfl 39 _).alloc _).alloc _).alloc _).alloc _).alloc _, ((((box_at (by simp) 30 _).alloc _).alloc _).alloc _).alloc _, ((box_at (by simp) 9 _).alloc _).alloc _, (box_at (by simp) 9 _).alloc _, box_at (by simp) 3 _,
        ⟨.slice none 0 0, (((box_at (by simp) 39 _).alloc _).alloc _).alloc _, World.ownsRow_nil _ _ _ _⟩, rfl, by simp [listGo]⟩
    have hz0 : w.heap.size + 6 ≤ W0.heap.size := hI0.size
    have hEv := hE.size
    have hEv2 := And.intro hE.size (var_lt gTab hE.tab)
    clear hW0
    refine range_own (by omega) (gf := 116) (lb := #[.pointer (some ⟨w.heap.size + 3 + 1, 0, none⟩), .pointer (some ⟨w.heap.size + 3, 0, none⟩), .pointer (some ⟨w.heap.size + 3 + 2, 0, none⟩)]) rfl (enters_of Tryz.func116 (by kernel_rfl) rfl) (w.heap.size + 3) (by omega)
      (fun st x => ∃ rest, splitL (lst s) = st.1 ++ lst x :: rest) (fun st x => (st.1 ++ [lst x], st.2)) (fun st => st.1 = splitL (lst s)) (LInv w.heap.size w) (LErr w.heap.size w (lst s)) ([], s)
      (split_iter _ (w.heap.size + 3) s (by omega) _ (fun st W h => h.vars) (fun st r W h => h.turn (Nat.le_refl _) r)) rfl (LInv.own (Nat.le_refl _) hz0) (LErr.own (Nat.le_refl _) hz0) hI0
      (fun x => { tmps := #[.string s, undef, .pointer (some ⟨w.heap.size, 0, none⟩), .pointer (some ⟨w.heap.size + 1, 0, none⟩), .pointer (some ⟨w.heap.size + 1 + 1, 0, none⟩), .string x, undef, undef, undef, .string s, .bool false, .string s,
        .func (.func 116) #[] #[.pointer (some ⟨w.heap.size + 1 + 1 + 1 + 1, 0, none⟩), .pointer (some ⟨w.heap.size + 1 + 1 + 1, 0, none⟩), .pointer (some ⟨w.heap.size + 1 + 1 + 1 + 2, 0, none⟩)],
        .string x, undef, undef, undef, undef, undef, undef, undef, undef, undef, undef, undef, undef, undef, undef, undef, undef, undef, undef, undef, undef], defers := [] }) ?assign ?body ?done ?stop
    case assign =>
      intro l x W K hK
      gi_wp2
      exact hK
    case body =>
      rintro l ⟨pre, r⟩ x W hI ⟨rest, hrest⟩
      obtain ⟨v, hv, hrow⟩ := hI.acc
      have hok := hI.ok
      have h64 := hI.len
      dsimp only at hrow hok h64 hrest ⊢
      obtain ⟨A, c, hvA, hc1, hc2, hin⟩ := hrow.strsIn
      subst hvA
      have hxs : x.size < 4294967281 := by
        have := splitL_mem (lst s) (lst x) (by rw [hrest]; simp)
        rw [show (lst x).length = x.size from (Lib.size_eq x).symm, show (lst s).length = s.size from (Lib.size_eq s).symm] at this
        omega
      obtain ⟨L, hL⟩ : ∃ L, (listGo pre []).1 = L := ⟨_, rfl⟩
      have hgo : ∀ qs, listGo (pre ++ qs) [] = listGo qs L := fun qs => by rw [listGo_app _ _ _ hok, hL]
      rw [hL] at hrow hc1 hin hv h64
      have hB := hI.below
      have hEW : Env W := env_grown hE hI.below hEv2
      have cP := readPart_any x (64 - (L.length : Int)) hxs (by omega) W hEW
      obtain ⟨⟨l2, e2⟩, hR⟩ : ∃ R, partM (lst x) (64 - (L.length : Int)) = R := ⟨_, rfl⟩
      rw [hR] at cP
      have hcell := hv.cell
      have HRow := hid hrow
      have HIn := hid hin
      have HGo := hid hgo
      have HOk := hid hok
      clear hrow hin hgo hL hok hEW
      by_cases h2 : e2 = 0
      · subst h2
        have hpo := partM_ok (lst x) (64 - (L.length : Int)) (by rw [hR])
        rw [hR] at hpo
        obtain ⟨hp1, hp2⟩ := hpo
        dsimp only at hp1 hp2
        gi_wp2_with fail
        refine ⟨trivial, ?_⟩
        refine (CallsIn.inRound l (callsIn_wide.2 cP)).mono ?_
        rintro e W2 ⟨⟨v2, rfl, hrow2⟩, hb2⟩
        obtain ⟨m, hm⟩ : ∃ m, l2.length = m + 1 := ⟨l2.length - 1, by omega⟩
        have hq := hrow2
        unfold StrRow at hq
        dsimp only at hq
        rw [hm] at hq
        obtain ⟨g, cap, rfl⟩ := ownsRow_succ hq
        have hv2 := Boxed.under hv hb2
        have hcell2 := hv2.cell
        have hrowW2 : StrRow W2 (w.heap.size + 6) (.slice A L.length c) L := row_under HRow.out hb2
        have hcs : ∀ j u, (strVals l2)[j]? = some u → W2.cell? ((⟨g, 0, none⟩ : Addr).add j) = some u := World.ownsRow.cells hq rfl
        have hone : ∀ u ∈ strVals l2, u.oneCell' = true := by
          intro u hu
          obtain ⟨a, _, rfl⟩ := List.mem_map.1 hu
          rfl
        have hsz6 : w.heap.size + 6 ≤ W2.heap.size := by have := hI.size; have := hb2.size; omega
        have hnl : (strVals l2).length = (m + 1) * 1 := by rw [strVals_len, hm]; omega
        have hmx : L.length + (m + 1) ≤ maxLen := by unfold maxLen; omega
        have hby : (L.length + (m + 1)) * 16 ≤ 140737488355328 := by omega
        obtain ⟨i9, hi9, hz9, hsi9, hby9⟩ := info_parts infoStr
        have HRow2 := hid hrowW2
        have HCs := hid hcs
        have HOne := hid hone
        have HQ := hid hq
        have HNl := hid hnl
        have HMx := hid hmx
        have HBy := hid hby
        have H6 := hid hsz6
        clear hrow2 hq hrowW2 hcs hone hnl hmx hby hsz6
        gi_wp2_with (gi_at_builtin; refine wpListIn_append_own _ rfl _ _ 39 rfl (w.heap.size + 6) 9 i9 (.string ⟨#[]⟩) 1 16 Tryz.underlying39 hi9 hz9 hsi9 hby9 rfl (by decide) _ L.length (strVals L) rfl HRow2.out ⟨g, 0, none⟩ (m + 1) cap (strVals l2) rfl HNl.out HCs.out HOne.out HMx.out HBy.out H6.out ?_)
        intro v' w3 hown' hgrow _
        obtain ⟨g', cap', rfl⟩ := ownsRow_succ (k := L.length + m) hown'
        have hv3 : Boxed w3 (w.heap.size + 2) 39 (.slice A L.length c) := hv2.kept hgrow (fun e => by have := HRow2.out.lt _ e.symm; omega)
        have hcell3 := hv3.cell
        have hfz3 := hv3.frozen
        have hown2 : StrRow w3 (w.heap.size + 6) (.slice (some ⟨g', 0, none⟩) (L.length + m + 1) cap') (L ++ l2) := by
          unfold StrRow
          rw [strVals_app, List.length_append, hm]
          exact hown'
        gi_wp2
        obtain ⟨i1, i2⟩ := LInv.step hI (Nat.le_refl _) hb2 hv HRow2.out hgrow hown2 (x := lst x) (by rw [HGo.out]; simp [listGo, hR]) (by simp; omega) W0.heap.size
        exact ⟨i2, i1⟩
      · have hgo2 : listGo (splitL (lst s)) [] = ([], e2) := by rw [hrest, HGo.out]; simp [listGo, hR, h2]
        have HGo2 := hid hgo2
        clear hgo2
        gi_wp2_with fail
        refine ⟨trivial, ?_⟩
        refine (CallsIn.inRound l (callsIn_wide.2 cP)).mono ?_
        rintro e W2 ⟨⟨v2, rfl, hrow2⟩, hb2⟩
        clear hrow2
        have k1 := Boxed.under hI.r1 hb2
        have k2 := Boxed.under hI.r2 hb2
        have f1 := k1.frozen
        have f2 := k2.frozen
        have g1 := k1.cell
        have g2 := k2.cell
        gi_wp2
        have q1 := grownBy_setCell' W2 w.heap.size (.slice none 0 0)
        have q2 := grownBy_setCell' (W2.setCell ⟨w.heap.size, 0, none⟩ (.slice none 0 0)) (w.heap.size + 1) (.int .i64 e2)
        have hne' : ∀ a b : Nat, a ≠ b → some a ≠ some b := fun a b h e => h (by injection e)
        refine ⟨(((keeps_below hb2).trans (KeepsOthers.setCell _ _ _)).trans (KeepsOthers.setCell _ _ _)).from _, ⟨?_, e2, by rw [HGo2.out], h2, (k1.set _).kept q2 (hne' _ _ (by omega)), (k2.kept q1 (hne' _ _ (by omega))).set _⟩⟩
        have hz2 := hb2.size
        have hzW := hI.size
        exact ((hB.trans (hb2.mono (by omega))).grown q1 (by omega) (fun k e => by injection e; omega)).grown q2 (by have := q1.size; omega) (fun k e => by injection e; omega)
    case done =>
      rintro D ⟨pre, r⟩ W hD hfin hI hK
      obtain ⟨v, hv, hrow⟩ := hI.acc
      have hok := hI.ok
      have h64 := hI.len
      dsimp only at hfin hrow hok h64
      rw [hfin] at hrow hok h64
      obtain ⟨A, c, hvA, hc1, hc2, hin⟩ := hrow.strsIn
      subst hvA
      have hM : listM (lst s) = if checkM (listGo (splitL (lst s)) []).1 ≠ 0 then ([], checkM (listGo (splitL (lst s)) []).1) else ((listGo (splitL (lst s)) []).1, 0) := by
        unfold listM
        rw [if_neg hne, if_neg (by rw [hok]; simp)]
      obtain ⟨L, hL⟩ : ∃ L, (listGo (splitL (lst s)) []).1 = L := ⟨_, rfl⟩
      rw [hL] at hM hrow hc1 hin hv h64
      have cC := check_any A L c _ W hin hc1 hc2
      have hcell := hv.cell
      have f1 := hI.r1.frozen
      have f2 := hI.r2.frozen
      have g1 := hI.r1.cell
      have g2 := hI.r2.cell
      have hBelow := hI.below
      by_cases hk : checkM L = 0
      · rw [if_neg (by simpa using hk)] at hM
        rw [hk] at cC
        gi_wp2_with fail
        refine ⟨trivial, ?_⟩
        refine (callsIn_wide.2 cC).mono ?_
        rintro e w' ⟨rfl, rfl⟩
        gi_wp2
        obtain ⟨k0, k1, k2, k3, k4⟩ := list_end (v := .slice A L.length c) (e := .int .i64 0) hI.r1 hI.r2 (D := D) (by omega) hK
        refine ⟨by simp, .inl ⟨_, _, rfl, run_takeDeferred k0, ?_⟩⟩
        refine ⟨_, results_cc rfl _ _ _ _ _ _ _ rfl rfl (loadStrs k1.cell) (loadErr k2.cell), ?_⟩
        rw [hM]
        exact ⟨⟨_, rfl, StrRow.mono (k4 _ _ _ hrow) (by omega)⟩, hBelow.trans k3⟩
      · rw [if_pos hk] at hM
        obtain ⟨e0, he0⟩ : ∃ e0, checkM L = e0 := ⟨_, rfl⟩
        rw [he0] at cC hM hk
        gi_wp2_with fail
        refine ⟨trivial, ?_⟩
        refine (callsIn_wide.2 cC).mono ?_
        rintro e w' ⟨rfl, rfl⟩
        gi_wp2
        obtain ⟨k0, k1, k2, k3, k4⟩ := list_end (v := .slice none 0 0) (e := .int .i64 e0) hI.r1 hI.r2 (D := D) (by omega) hK
        refine ⟨by simp, .inl ⟨_, _, rfl, run_takeDeferred k0, ?_⟩⟩
        refine ⟨_, results_cc rfl _ _ _ _ _ _ _ rfl rfl (loadStrs k1.cell) (loadErr k2.cell), ?_⟩
        rw [hM]
        exact ⟨⟨_, rfl, World.ownsRow_nil _ _ _ _⟩, hBelow.trans k3⟩
    case stop =>
      rintro D W hD ⟨hb, e, he, hne0, h1, h2⟩ hK
      have hM : listM (lst s) = ([], e) := by
        unfold listM
        rw [if_neg hne, if_pos (by rw [he]; exact hne0), he]
      have hg3 := grownBy_putObj' W D (.deferred none)
      have hne' : ∀ a b : Nat, a ≠ b → some a ≠ some b := fun a b h e => h (by injection e)
      gi_wp2
      refine ⟨by simp, .inl ⟨_, _, rfl, run_takeDeferred hK, ?_⟩⟩
      refine ⟨_, results_cc rfl _ _ _ _ _ _ _ rfl rfl (loadStrs (h1.kept hg3 (hne' _ _ (by omega))).cell) (loadErr (h2.kept hg3 (hne' _ _ (by omega))).cell), ?_⟩
      rw [hM]
      exact ⟨⟨_, rfl, World.ownsRow_nil _ _ _ _⟩, hb.grown hg3 hb.size (fun k e => by injection e; omega)⟩
  · obtain ⟨x1, x2, x3, x4⟩ := str_yes h0
    have hnil := lst_nil h0
    have hM : listM (lst s) = ([], 0) := by rw [hnil]; rfl
    gi_wp2
    refine ⟨_, results_cc rfl _ _ _ _ _ _ _ rfl rfl (loadStrs (x := .slice none 0 0) ?_) (loadErr (x := .int .i64 0) ?_), ?_⟩
    · simp
    · simp
    · rw [hM]
      exact ⟨⟨_, rfl, World.ownsRow_nil _ _ _ _⟩, ((Below.refl _ w).alloc (Nat.le_refl _) _).alloc (by simp) _⟩

end Go.Proofs.YtpaejkhaiifgdaaGreatDoor.S3

set_option linter.unusedVariables false
namespace Go.Proofs.YtpaejkhaiifgdaaGreatDoor.S11
open Go Go.Proofs Go.RowKit Go.Lib Go.Proofs.YtpaejkhaiifgdaaGreatDoor

set_option maxHeartbeats 2000000 in
theorem ucode_any (s : ByteArray) (w : World) : Calls Tryz.prog 55 #[.string s] w fun e w' => e = .returned (.tuple #[.string (if S3.validC (lst s) = true then s else ⟨#[]⟩), .int .i64 (if S3.validC (lst s) = true then 0 else 10)]) ∧ w' = w := by
  have cV := fun w => S3.valid_any s w
  cases hv : S3.validC (lst s) with
  | false =>
    rw [show s.data.toList = lst s from rfl, hv] at cV
    rw [if_neg (by simp), if_neg (by simp)]
    clear hv
    go_enter Tryz.func55, Tryz.ntmps55
    go_wp2_with fail
    refine (cV _).mono ?_
    rintro e w' ⟨rfl, rfl⟩
    go_wp2
    go_ret2
    exact ⟨rfl, rfl⟩
  | true =>
    rw [show s.data.toList = lst s from rfl, hv] at cV
    rw [if_pos rfl, if_pos rfl]
    clear hv
    go_enter Tryz.func55, Tryz.ntmps55
    go_wp2_with fail
    refine (cV _).mono ?_
    rintro e w' ⟨rfl, rfl⟩
    go_wp2
    go_ret2
    exact ⟨rfl, rfl⟩
set_option maxHeartbeats 4000000 in
set_option maxRecDepth 100000 in
theorem readCourses_any (s : ByteArray) (hs : s.size < 4294967281) (w : World) (hE : S3.Env w) : Calls Tryz.prog 56 #[.string s] w (S3.ListOut (coursesM (lst s)) w) := by
  have cL := hid (S3.list_any s hs w hE)
  unfold S3.ListOut coursesM
  have cL' := cL.out
  unfold S3.ListOut at cL'
  rw [show S3.lst s = lst s from rfl] at cL'
  obtain ⟨⟨l, e0⟩, hR⟩ : ∃ R, S3.listM (lst s) = R := ⟨_, rfl⟩
  rw [hR] at cL' ⊢
  dsimp only at cL' ⊢
  have CL := hid cL'
  clear cL cL' hR hE
  by_cases h0 : e0 = 0
  · subst h0
    rw [if_neg (by simp)]
    by_cases hn : l.length = 0
    · rw [if_pos hn]
      have hl := List.eq_nil_of_length_eq_zero hn
      subst hl
      clear hn
      go_enter Tryz.func56, Tryz.ntmps56
      go_wp2_with fail
      refine CL.out.mono ?_
      rintro e w1 ⟨⟨v, rfl, hrow⟩, hb⟩
      obtain ⟨A, c, rfl, _⟩ := hrow.strsIn
      have HB := hid hb
      clear hb hrow
      go_wp2
      go_ret2
      exact ⟨⟨_, rfl, World.ownsRow_nil _ _ _ _⟩, HB.out⟩
    · rw [if_neg hn]
      by_cases h8 : 8 < l.length
      · rw [if_pos h8]
        have h8z : (8 : Int) < (l.length : Int) := by omega
        have hnz : ((l.length : Int) == 0) = false := beq_eq_false_iff_ne.2 (by omega)
        have hnz2 : ¬ (l.length : Int) = 0 := by omega
        go_enter Tryz.func56, Tryz.ntmps56
        go_wp2_with fail
        refine CL.out.mono ?_
        rintro e w1 ⟨⟨v, rfl, hrow⟩, hb⟩
        obtain ⟨A, c, rfl, _⟩ := hrow.strsIn
        have HB := hid hb
        clear hb hrow
        go_wp2
        go_ret2
        exact ⟨⟨_, rfl, World.ownsRow_nil _ _ _ _⟩, HB.out⟩
      · rw [if_neg h8]
        have h8z : ¬ (8 : Int) < (l.length : Int) := by omega
        have hnz : ((l.length : Int) == 0) = false := beq_eq_false_iff_ne.2 (by omega)
        have hnz2 : ¬ (l.length : Int) = 0 := by omega
        go_enter Tryz.func56, Tryz.ntmps56
        go_wp2_with fail
        refine CL.out.mono ?_
        rintro e w1 ⟨⟨v, rfl, hrow⟩, hb⟩
        have HRow := hid hrow
        obtain ⟨A, c, rfl, _⟩ := hrow.strsIn
        have HB := hid hb
        clear hb hrow
        go_wp2
        go_ret2
        exact ⟨⟨_, rfl, HRow.out⟩, HB.out⟩
  · rw [if_pos h0]
    have e1 : (e0 != 0) = true := by simpa using h0
    have e2 : (e0 == 0) = false := by simpa using h0
    go_enter Tryz.func56, Tryz.ntmps56
    go_wp2_with fail
    refine CL.out.mono ?_
    rintro e w1 ⟨⟨v, rfl, hrow⟩, hb⟩
    have HB := hid hb
    clear hb hrow
    go_wp2
    go_ret2
    exact ⟨⟨_, rfl, World.ownsRow_nil _ _ _ _⟩, HB.out⟩
section
variable (x : Str) (r : CurrD) (q : CurrA) (R : Nat) (W : World)
  (hX : Box2 W R (.string (ba r.1)) (.slice q.1 r.2.length q.2)) (hR : CurrIn W (fun k => R < k ∧ k < W.heap.size) r q)
include hX hR
set_option maxHeartbeats 8000000 in
set_option maxRecDepth 100000 in
theorem readField0 : Calls Tryz.prog 36 #[.pointer (some ⟨R, 0, none⟩), .int .i64 0, .string (ba x)] W (FieldOut 0 x r R W) := by
  unfold FieldOut
  have cC := fun W => ucode_any (ba x) W
  rw [lst_ba] at cC
  obtain ⟨u, hu⟩ : ∃ u : Str, (if S3.validC x = true then x else []) = u := ⟨_, rfl⟩
  have hub : (if S3.validC x = true then ba x else ⟨#[]⟩) = ba u := by rw [← hu]; split <;> rfl
  obtain ⟨e0, he0⟩ : ∃ e0 : Int, (if S3.validC x = true then (0 : Int) else 10) = e0 := ⟨_, rfl⟩
  have hS : setF 0 x r = ((u, r.2), e0) := by rw [← hu, ← he0]; simp only [setF]; split <;> rfl
  rw [hub, he0] at cC
  rw [hS]
  obtain ⟨z, hz⟩ : ∃ z, ba x = z := ⟨_, rfl⟩
  rw [hz] at cC ⊢
  clear hub hu he0 hS
  have CC := hid cC
  clear cC
  have HX := hid hX
  have HR := hid hR
  have hlt := hX.lt
  clear hX hR
  go_enter Tryz.func36, Tryz.ntmps36
  go_wp2_with fail
  refine (CC.out _).mono ?_
  rintro e w2 ⟨rfl, rfl⟩
  obtain ⟨y0, y1⟩ := HX.out.cells
  have hf := HX.out.free 0
  go_wp2
  go_ret
  have k := CurrIn.past (j := 0) (v := .string (ba u)) HR.out (Below.refl _ _)
  exact ⟨rfl, ⟨q, (Box2.put0 HX.out _), ⟨k.t, k.t1, k.t2⟩⟩, put_grown (Below.refl _ _) R 0 _⟩
set_option maxHeartbeats 8000000 in
set_option maxRecDepth 100000 in
theorem readField1 (hE : S3.Env W) (hx : x.length < 4294967281) : Calls Tryz.prog 36 #[.pointer (some ⟨R, 0, none⟩), .int .i64 1, .string (ba x)] W (FieldOut 1 x r R W) := by
  unfold FieldOut
  have cC := fun W h => (lst_ba x) ▸ readCourses_any (ba x) (by rw [Lib.size_eq]; exact hx) W h
  obtain ⟨⟨u, e0⟩, hu⟩ : ∃ p, coursesM x = p := ⟨_, rfl⟩
  have hS : setF 1 x r = ((r.1, u), e0) := by simp only [setF, hu]
  rw [hu] at cC
  rw [hS]
  obtain ⟨z, hz⟩ : ∃ z, ba x = z := ⟨_, rfl⟩
  rw [hz] at cC ⊢
  have CC := hid cC
  clear cC hS
  have HX := hid hX
  have HR := hid hR
  have hlt := hX.lt
  clear hX hR
  go_enter Tryz.func36, Tryz.ntmps36
  go_wp2_with fail
  refine (CC.out _ hE).mono ?_
  rintro e w2 ⟨⟨v, rfl, hrow⟩, hb2⟩
  have hrow' : S3.StrRow w2 W.heap.size v u := hrow
  obtain ⟨A, c, rfl, hc1, hc2, hin⟩ := hrow'.strsIn
  have HIN := hid hin
  have HB2 := hid hb2
  have HX2 := hid (HX.out.below hb2 hlt)
  clear hb2 hrow hin hrow'
  obtain ⟨y0, y1⟩ := HX2.out.cells
  have hf := HX2.out.free 1
  go_wp2
  go_ret
  have hg := put_grown HB2.out R 1 (.slice A u.length c)
  have k := CurrIn.past (j := 1) (v := .slice A u.length c) HR.out HB2.out
  refine ⟨rfl, ⟨(A, c), (Box2.put1 HX2.out _), ⟨?_, hc1, hc2⟩⟩, hg⟩
  refine (HIN.out.kept (w' := w2.setCell ⟨R, 1, none⟩ (.slice A u.length c)) (fun b hb => ?_)).mono (fun b hb => ⟨by omega, ?_⟩)
  · exact Below.heap_setCell w2 ⟨R, 1, none⟩ _ b (fun e => by have : b = R := e; omega)
  · simpa [World.setCell] using hb.2
theorem readField_any (hE : S3.Env W) (hx : x.length < 4294967281) (i : Nat) (hi : i < 2) : Calls Tryz.prog 36 #[.pointer (some ⟨R, 0, none⟩), .int .i64 (i : Int), .string (ba x)] W (FieldOut i x r R W) := by
  match i, hi with
  | 0, _ => exact readField0 x r q R W hX hR
  | 1, _ => exact readField1 x r q R W hX hR hE hx
end
end Go.Proofs.YtpaejkhaiifgdaaGreatDoor.S11

set_option linter.unusedVariables false
namespace Go.Proofs.YtpaejkhaiifgdaaGreatDoor.S11
open Go Go.Proofs Go.RowKit Go.Lib Go.Proofs.YtpaejkhaiifgdaaGreatDoor

set_option maxHeartbeats 8000000 in
set_option maxRecDepth 100000 in
theorem readEntry_any (A : Option Addr) (fs : List FieldD) (c B : Nat) (w : World) (hB : B ≤ w.heap.size) (h : FieldsIn w (fun b => b < B) A fs) (hfc : fs.length ≤ c) (hc : c ≤ 9223372036854775807)
    (hF : ∀ (W : World) (R i : Nat) (x : Str) (r : CurrD) (q : CurrA), Below w.heap.size w W → w.heap.size ≤ R → i < 2 → (∃ f ∈ fs, f.1 = x) → Box2 W R (.string (ba r.1)) (.slice q.1 r.2.length q.2) → CurrIn W (fun k => R < k ∧ k < W.heap.size) r q →
      Calls Tryz.prog 36 #[.pointer (some ⟨R, 0, none⟩), .int .i64 (i : Int), .string (ba x)] W (FieldOut i x r R W)) :
    Calls Tryz.prog 54 #[.slice A fs.length c, .int .i64 2, .func (.func 36) #[] #[]] w (EntryOut (entryM fs) w) := by
  have eg : ∀ args w, (callFunc 36 args).run Tryz.prog w = .ok (.enter 36 args) w := enters_of Tryz.func36 (by kernel_rfl) rfl
  obtain ⟨O, hO⟩ : ∃ O, entryM fs = O := ⟨_, rfl⟩
  rw [hO]
  have hb0 := (Below.refl w.heap.size w).alloc (Nat.le_refl _) (.cells #[.string ⟨#[]⟩, .slice none 0 0] 41)
  have hx0 := Box2.new w (.string ⟨#[]⟩) (.slice none 0 0)
  have hr0 : ∀ W P, CurrIn W P zeroR (none, 0) := fun W P => ⟨.inl rfl, Nat.le_refl _, by decide⟩
  have HH := hid h
  have HF := hid hF
  have HR0 := hid hr0
  by_cases h5 : fs.length = 2
  · have hn5 : ((fs.length : Int) != 2) = false := by rw [h5]; rfl
    have hOe : Hid (efold fs 0 zeroR = O) := hid (by rw [← hO]; unfold entryM; rw [if_neg (by simp [h5])])
    have HB0 := hid hb0
    have HX0 := hid hx0
    clear h hF hr0 hO hb0 hx0
    go_enter Tryz.func54, Tryz.ntmps54
    go_wp2
    generalize w.alloc (.cells #[.string ⟨#[]⟩, .slice none 0 0] 41) = wz at HB0 HX0 ⊢
    go_loopw [9, 10, 11, 19] (fun _ _ _ iv wr => ∃ (i : Nat) (r : CurrD) (q : CurrA), iv = .int .i64 (i : Int) ∧ i ≤ 2 ∧ Hid (efold (fs.drop i) i r = O) ∧ Hid (Box2 wr w.heap.size (.string (ba r.1)) (.slice q.1 r.2.length q.2)) ∧ Hid (CurrIn wr (fun k => w.heap.size < k ∧ k < wr.heap.size) r q) ∧ Hid (Below w.heap.size w wr)) (fun _ _ _ iv _ => 2 - (RowKit.intOf iv).toNat)
    case atStart => exact ⟨0, zeroR, (none, 0), rfl, by omega, hid hOe.out, hid HX0.out, hid (HR0.out _ _), hid HB0.out⟩
    case round =>
      obtain ⟨i, r, q, rfl, hi, hE, hX, hR, hBw⟩ := hrel
      by_cases hlt : i < 2
      · have hlt' : i < fs.length := by omega
        have hltz : (i : Int) < (fs.length : Int) := by omega
        have hst := efold_step fs i hlt' r
        rw [hE.out] at hst
        obtain ⟨fb, fo, rfl, hfb, hc0⟩ := HH.out.at_ hlt'
        have hmem : ∃ f ∈ fs, f.1 = fs[i].1 := ⟨_, List.getElem_mem hlt', rfl⟩
        obtain ⟨⟨fx, fcol, fq⟩, hfi⟩ : ∃ f, fs[i] = f := ⟨_, rfl⟩
        rw [hfi] at hst hc0 hmem
        dsimp only at hst hc0 hmem
        obtain ⟨y0, y1, y2⟩ := hc0
        have kc : ∀ o : Nat, wr.cell? ⟨fb, o, none⟩ = w.cell? ⟨fb, o, none⟩ := fun o => hBw.out.cell (p := ⟨fb, o, none⟩) (by show fb < w.heap.size; omega)
        rw [← kc] at y0 y1 y2
        have hxl := hX.out.lt
        have hw1 := (Below.refl wr.heap.size wr).alloc (Nat.le_refl _) (.cells #[.string (ba fx), .int .i64 fcol, .bool fq] 99)
        have e1 := heap_alloc_new wr (.cells #[.string (ba fx), .int .i64 fcol, .bool fq] 99)
        have hs1 : (wr.alloc (.cells #[.string (ba fx), .int .i64 fcol, .bool fq] 99)).heap.size = wr.heap.size + 1 := by simp
        have HW1 := hid hw1
        have HE1 := hid e1
        have HS1 := hid hs1
        have HST := hid hst
        obtain ⟨z, hz⟩ : ∃ z, ba fx = z := ⟨_, rfl⟩
        have HZ := hid hz
        rw [hz] at y0 HW1 HE1 HS1
        clear hst kc hfi hw1 e1 hs1 hz hE
        go_wp2_with fail
        generalize wr.alloc (.cells #[.string z, .int .i64 fcol, .bool fq] 99) = w1 at HW1 HE1 HS1 ⊢
        have hX1 := hX.out.below HW1.out hxl
        have hR1 : CurrIn w1 (fun k => w.heap.size < k ∧ k < w1.heap.size) r q := (hR.out.kept (fun k hk => HW1.out.block k hk.2)).mono (fun k hk => ⟨hk.1, by rw [HS1.out]; omega⟩)
        have hB1 := hBw.out.trans (HW1.out.mono hBw.out.size)
        have cF := HF.out w1 w.heap.size i fx r q hB1 (Nat.le_refl _) hlt hmem hX1 hR1
        rw [HZ.out] at cF
        have CF := hid cF
        clear cF hX1 hR1 hX hR hmem
        refine CF.out.mono ?_
        rintro e w2 ⟨rfl, ⟨q', hX2, hR2⟩, hg2⟩
        obtain ⟨⟨r', e2⟩, hse⟩ : ∃ S, setF i fx r = S := ⟨_, rfl⟩
        rw [hse] at hX2 hR2 HST ⊢
        dsimp only at hX2 hR2 HST ⊢
        have HX2 := hid hX2
        have HR2 := hid hR2
        have HG2 := hid hg2
        clear hX2 hR2 hg2
        have hlt1 : w.heap.size < w1.heap.size := by rw [HS1.out]; omega
        have hBend : Below w.heap.size w w2 := (hBw.out.trans (HW1.out.mono hBw.out.size)).grown HG2.out (by omega) (fun k e => by injection e; omega)
        have HBE := hid hBend
        clear hBend
        by_cases h2 : e2 = 0
        · subst h2
          have hst := HST.out
          simp only [ne_eq, not_true, if_false] at hst
          have HN := hid hst.symm
          clear hst
          go_wp2
          exact ⟨⟨i + 1, r', q', rfl, by omega, HN, HX2, HR2, HBE⟩, by simp [RowKit.intOf]; omega⟩
        · have hst := HST.out
          rw [if_pos h2] at hst
          have hfr : w2.heap[wr.heap.size]? = some (.cells #[.string z, .int .i64 fcol, .bool fq] 99 (0, 0)) := (HG2.out.block wr.heap.size (by rw [HS1.out]; omega) (fun e => by injection e; omega)).trans HE1.out
          have c1 : w2.cell? ⟨wr.heap.size, 1, none⟩ = some (.int .i64 fcol) := by rw [Lib.cell_of_heap hfr]; rfl
          obtain ⟨y0', y1'⟩ := HX2.out.cells
          have f0 := HX2.out.free 0
          have f1 := HX2.out.free 1
          have HST2 := hid hst
          clear hst hfr
          go_wp2
          go_region
          go_wp2
          obtain ⟨W5, h5⟩ : ∃ W5, W5 = (w2.setCell ⟨w.heap.size, 0, none⟩ (.string (ba r'.1))).setCell ⟨w.heap.size, 1, none⟩ (.slice q'.1 r'.2.length q'.2) := ⟨_, rfl⟩
          rw [← h5]
          obtain ⟨k1, k2, k3⟩ := two_put HX2.out HR2.out HBE.out h5
          clear h5
          have k1' : Box2 W5.drew w.heap.size _ _ := k1.kept rfl
          have k2' : CurrIn W5.drew (fun k => w.heap.size < k ∧ k < W5.drew.heap.size) r' q' := k2.kept (fun _ _ => rfl)
          refine entry_end (r := r') (q := q') ?_ ?_ ?_ ?_ k1' k2' k3.drew HST2.out
          all_goals rfl
      · have : i = 2 := by omega
        subst this
        have hdrop : fs.drop 2 = [] := List.drop_eq_nil_of_le (by omega)
        have hOf := hE.out
        rw [hdrop] at hOf
        obtain ⟨y0', y1'⟩ := hX.out.cells
        have f0 := hX.out.free 0
        have f1 := hX.out.free 1
        go_wp2
        obtain ⟨W5, h5⟩ : ∃ W5, W5 = (wr.setCell ⟨w.heap.size, 0, none⟩ (.string (ba r.1))).setCell ⟨w.heap.size, 1, none⟩ (.slice q.1 r.2.length q.2) := ⟨_, rfl⟩
        rw [← h5]
        obtain ⟨k1, k2, k3⟩ := two_put hX.out hR.out hBw.out h5
        clear h5
        refine entry_end (r := r) (q := q) ?_ ?_ ?_ ?_ k1 k2 k3 (by rw [← hOf]; rfl)
        all_goals rfl
  · have hn5 : ((fs.length : Int) != 2) = true := by simp; omega
    have hOf : O = (zeroR, 0, 9) := by rw [← hO]; unfold entryM; rw [if_pos h5]
    have hR0 : CurrIn (w.alloc (.cells #[.string ⟨#[]⟩, .slice none 0 0] 41)) (fun k => w.heap.size < k ∧ k < (w.alloc (.cells #[.string ⟨#[]⟩, .slice none 0 0] 41)).heap.size) zeroR (none, 0) := hr0 _ _
    have HB0 := hid hb0
    have HX0 := hid hx0
    have HR1 := hid hR0
    clear h hF hr0 hO hb0 hx0 hR0
    go_enter Tryz.func54, Tryz.ntmps54
    go_wp2
    refine entry_end (r := zeroR) (q := (none, 0)) ?_ ?_ ?_ ?_ HX0.out HR1.out HB0.out hOf
    all_goals rfl
end Go.Proofs.YtpaejkhaiifgdaaGreatDoor.S11

set_option linter.unusedVariables false
namespace Go.Proofs.YtpaejkhaiifgdaaGreatDoor.S3
open Go Go.Proofs Go.RowKit Go.Lib

theorem StrsIn.rest {w : World} {P : Nat → Prop} {A : Option Addr} {l : List Str} (h : StrsIn w P A l) (n c : Nat) (hlc : l.length ≤ c) : StrsIn w P (if c = n then A else A.map (·.add n)) (l.drop n) := by
  by_cases hn : n < l.length
  · rw [if_neg (by omega)]
    rcases h with h | ⟨b, off, rfl, hP, hc⟩
    · subst h; simp at hn
    · refine .inr ⟨b, off + n, by rw [Option.map_some, Addr.add_lit], hP, fun j s hj => ?_⟩
      rw [List.getElem?_drop] at hj
      rw [show off + n + j = off + (n + j) by omega]
      exact hc _ _ hj
  · exact .inl (List.drop_of_length_le (by omega))

end Go.Proofs.YtpaejkhaiifgdaaGreatDoor.S3

set_option linter.unusedVariables false
namespace Go.Proofs.YtpaejkhaiifgdaaGreatDoor.S11
open Go Go.Proofs Go.RowKit Go.Lib Go.Proofs.YtpaejkhaiifgdaaGreatDoor

theorem grown_under {w w1 w2 : World} {M : Nat} (h : w.grownBy w1 (some M)) (hb : Below w1.heap.size w1 w2) : w.grownBy w2 (some M) :=
  h.andThen (below_grown hb (Nat.le_refl _)) (fun j hj => by cases hj)
/-- What holds around the loop: the boxes. -/
structure CK (KB AB MB M : Nat) (w : World) : Prop where
  d : DistIn w KB AB MB M
  km : KB ≠ M
  am : AB ≠ M
  mm : MB ≠ M
theorem CK.grown {KB AB MB M : Nat} {w w' : World} (h : CK KB AB MB M w) (hg : w.grownBy w' (some M)) : CK KB AB MB M w' := by
  have kb : ∀ k, k < w.heap.size → k ≠ M → w'.heap[k]? = w.heap[k]? := fun k hk hn => hg.block k hk (fun e => hn (Option.some.inj e))
  exact ⟨h.d.kept (fun k hk => by
      rcases hk with rfl | rfl | rfl
      · exact kb _ h.d.k.lt h.km
      · exact kb _ h.d.a.lt h.am
      · exact kb _ h.d.m.lt h.mm), h.km, h.am, h.mm⟩

end Go.Proofs.YtpaejkhaiifgdaaGreatDoor.S11

