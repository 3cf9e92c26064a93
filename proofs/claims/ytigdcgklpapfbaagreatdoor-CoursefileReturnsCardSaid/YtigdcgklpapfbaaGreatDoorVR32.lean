/-
  Reading lecturers, as mathematics: fields, entries, lists of records. No program.
  What reading a field and an entry leave behind; a lecturer in a block of its own. Conditions: as stated.
  What holds while entries are read out of records. Conditions: as stated.
  What holds while lecturers are read out of records. Conditions: as stated.
  The walk of Dice.Staff: lecturers as they are made. Conditions: dice in memory, behind the table of people; a grid of at most 100 days and slots, at most 20 weeks.
  The sizes of made classes' records, and the codes of made lecturers. No walk.
  Whether two classes are parallel: by the program, by the specification. No condition.
-/
import Derived.Test.YtigdcgklpapfbaaGreatDoorVR29
import Derived.Test.YtigdcgklpapfbaaGreatDoorVR31
set_option linter.unusedVariables false
namespace Go.Proofs.YtigdcgklpapfbaaGreatDoor.S9
open Go Go.Proofs Go.RowKit Go.Lib Go.Proofs.YtigdcgklpapfbaaGreatDoor

def setF (d s b m n : Int) (i : Nat) (x : Str) (r : LectD) : LectD × Int :=
  match i with
  | 0 => if S3.validC x = true then ((x, r.2), 0) else (([], r.2), 10)
  | 1 => ((r.1, (timesM d s b m n x).1), (timesM d s b m n x).2)
  | _ => (r, 0)
def zeroR : LectD := ([], [])
def efold (d s b m n : Int) : List FieldD → Nat → LectD → LectD × Int × Int
  | [], _, r => (r, 0, 0)
  | f :: fs, i, r => if (setF d s b m n i f.1 r).2 ≠ 0 then ((setF d s b m n i f.1 r).1, f.2.1, (setF d s b m n i f.1 r).2) else efold d s b m n fs (i + 1) (setF d s b m n i f.1 r).1
/-- A room out of the fields of a record; the column of the field in question; the error. -/
def entryM (d s b m n : Int) (fs : List FieldD) : LectD × Int × Int := if fs.length ≠ 2 then (zeroR, 0, 9) else efold d s b m n fs 0 zeroR
theorem efold_step (d s b m n : Int) (fs : List FieldD) (i : Nat) (h : i < fs.length) (r : LectD) :
    efold d s b m n (fs.drop i) i r = if (setF d s b m n i fs[i].1 r).2 ≠ 0 then ((setF d s b m n i fs[i].1 r).1, fs[i].2.1, (setF d s b m n i fs[i].1 r).2) else efold d s b m n (fs.drop (i + 1)) (i + 1) (setF d s b m n i fs[i].1 r).1 := by
  rw [List.drop_eq_getElem_cons h, efold]
def addC (l : List LectD) (c : Str) : Int := if c ∈ codesL l then 11 else if l.length = 32 then 2 else 0
/-- One record more. -/
def recM (d s b m n : Int) (st : List LectD × List ProbD) (x : RecD) : List LectD × List ProbD :=
  if (entryM d s b m n x.2).2.2 ≠ 0 then (st.1, st.2 ++ [(x.1, (entryM d s b m n x.2).2.1, (entryM d s b m n x.2).2.2)])
  else if addC st.1 (entryM d s b m n x.2).1.1 ≠ 0 then (st.1, st.2 ++ [(x.1, (entryM d s b m n x.2).2.1, addC st.1 (entryM d s b m n x.2).1.1)])
  else (st.1 ++ [(entryM d s b m n x.2).1], st.2)
def recsM (d s b m n : Int) (l : List RecD) : List LectD × List ProbD := l.foldl (recM d s b m n) ([], [])
def readM (d s b m n : Int) (l : List RecD) : List LectD × List ProbD := if frameB d s b m n = true then recsM d s b m n l else ([], [(0, 0, 1)])
theorem recsM_take (d s b m n : Int) (l : List RecD) (i : Nat) (h : i < l.length) : recsM d s b m n (l.take (i + 1)) = recM d s b m n (recsM d s b m n (l.take i)) l[i] := by
  unfold recsM
  rw [List.take_succ_eq_append_getElem h, List.foldl_append]
  rfl
theorem recM_room_len (d s b m n : Int) (st : List LectD × List ProbD) (x : RecD) (h : st.1.length ≤ 32) : (recM d s b m n st x).1.length ≤ 32 := by
  unfold recM
  split
  · exact h
  · split
    · exact h
    · rename_i h2
      unfold addC at h2
      by_cases h3 : (entryM d s b m n x.2).1.1 ∈ codesL st.1
      · rw [if_pos h3] at h2; simp at h2
      · rw [if_neg h3] at h2
        by_cases h4 : st.1.length = 32
        · rw [if_pos h4] at h2; simp at h2
        · simp; omega
theorem recsM_len (d s b m n : Int) (l : List RecD) : (recsM d s b m n l).1.length ≤ 32 := by
  unfold recsM
  have : ∀ (l : List RecD) (st : List LectD × List ProbD), st.1.length ≤ 32 → (l.foldl (recM d s b m n) st).1.length ≤ 32 := by
    intro l
    induction l with
    | nil => exact fun st h => h
    | cons x r ih => exact fun st h => ih _ (recM_room_len d s b m n st x h)
  exact this l _ (by simp)
theorem recsM_probs (d s b m n : Int) (l : List RecD) : (recsM d s b m n l).2.length ≤ l.length := by
  unfold recsM
  have : ∀ (l : List RecD) (st : List LectD × List ProbD), (l.foldl (recM d s b m n) st).2.length ≤ st.2.length + l.length := by
    intro l
    induction l with
    | nil => exact fun st => Nat.le_refl _
    | cons x r ih =>
      intro st
      rw [List.foldl_cons]
      refine Nat.le_trans (ih _) ?_
      have : (recM d s b m n st x).2.length ≤ st.2.length + 1 := by
        unfold recM
        split
        · simp
        · split <;> simp
      simp
      omega
  simpa using this l ([], [])
/-- The codes of the rooms that were read, in the map's words. -/
theorem addM_codes (l : List LectD) (c : Str) : (addK 32 (codesL l) c).2 = addC l c ∧ (addK 32 (codesL l) c).1 = if addC l c = 0 then codesL l ++ [c] else codesL l := by
  unfold addK addC
  have e : (codesL l).length = l.length := by simp [codesL]
  rw [e]
  by_cases h : c ∈ codesL l
  · rw [if_pos h, if_pos h]; simp
  · rw [if_neg h, if_neg h]
    by_cases h2 : l.length = 32
    · rw [if_pos h2, if_pos h2]; simp
    · rw [if_neg h2, if_neg h2]; simp
end Go.Proofs.YtigdcgklpapfbaaGreatDoor.S9

set_option linter.unusedVariables false
namespace Go.Proofs.YtigdcgklpapfbaaGreatDoor.S9
open Go Go.Proofs Go.RowKit Go.Lib Go.Proofs.YtigdcgklpapfbaaGreatDoor

/-- What a call that reads field i of the lecturer in block R leaves behind. -/
def FieldOut (d s b m n : Int) (i : Nat) (x : Str) (r : LectD) (R : Nat) (w : World) (e : Ending) (w' : World) : Prop :=
  e = .returned (.int .i64 (setF d s b m n i x r).2) ∧ (∃ q : LectA, Box2 w' R (.string (ba (setF d s b m n i x r).1.1)) (.slice q.1 (setF d s b m n i x r).1.2.length q.2) ∧ LectIn w' (fun k => R < k ∧ k < w'.heap.size) (setF d s b m n i x r).1 q) ∧ w.grownBy w' (some R)
/-- What a call that reads an entry leaves behind. -/
def EntryOut (o : LectD × Int × Int) (w : World) (e : Ending) (w' : World) : Prop :=
  (∃ q, e = .returned (.tuple #[lectV o.1 q, .int .i64 o.2.1, .int .i64 o.2.2]) ∧ LectIn w' (fun k => w.heap.size ≤ k ∧ k < w'.heap.size) o.1 q) ∧ Below w.heap.size w w'
end Go.Proofs.YtigdcgklpapfbaaGreatDoor.S9

set_option linter.unusedVariables false
namespace Go.Proofs.YtigdcgklpapfbaaGreatDoor
open Go Go.Proofs Go.RowKit Go.Lib

theorem own_lt {W : World} {B e z n : Nat} {v : Value} {xs : List Value} (h : W.ownsRow B e z v n xs) : ∀ k, v.ownBlock = some k → B ≤ k ∧ k < W.heap.size := World.ownsRow.lt h
section
variable {M : Nat} {w W W' : World} {rs : List RoomD} {ps : List ProbD} {cs cs' : List Str} {v1 v2 : Value}
theorem kinds_ne {B B' e e' z z' n n' : Nat} {v v' : Value} {xs xs' : List Value} (h : W.ownsRow B e z v n xs) (h' : W.ownsRow B' e' z' v' n' xs') (hne : e ≠ e') : v.ownBlock = none ∨ v.ownBlock ≠ v'.ownBlock := by
  cases hv : v.ownBlock with
  | none => exact .inl rfl
  | some g =>
    refine .inr fun e0 => ?_
    obtain ⟨c, hc⟩ := row_kindT h g hv
    obtain ⟨c', hc'⟩ := row_kindT h' g e0.symm
    rw [hc] at hc'
    injection hc' with h1
    injection h1 with _ h2
    exact hne h2
end
theorem setF_code (d s b m n : Int) (K : Nat) (hK : 0 < K) (i : Nat) (x : Str) (r : RoomD) (hx : x.length < K) (hr : r.1.length < K) : (setF d s b m n i x r).1.1.length < K := by
  match i with
  | 0 => simp only [setF]; split <;> simp_all
  | 1 => simp only [setF]; split <;> simp_all
  | 2 => exact hr
  | 3 => exact hr
  | 4 => exact hr
  | j + 5 => exact hr
theorem efold_code (d s b m n : Int) (K : Nat) (hK : 0 < K) : ∀ (fs : List FieldD) (i : Nat) (r : RoomD), (∀ f ∈ fs, f.1.length < K) → r.1.length < K → (efold d s b m n fs i r).1.1.length < K
  | [], _, r, _, hr => hr
  | f :: fs, i, r, h, hr => by
    unfold efold
    have h1 := setF_code d s b m n K hK i f.1 r (h f (by simp)) hr
    split
    · exact h1
    · exact efold_code d s b m n K hK fs (i + 1) _ (fun g hg => h g (by simp [hg])) h1
theorem entryM_code (d s b m n : Int) (K : Nat) (hK : 0 < K) (fs : List FieldD) (h : ∀ f ∈ fs, f.1.length < K) : (entryM d s b m n fs).1.1.length < K := by
  unfold entryM
  split
  · exact hK
  · exact efold_code d s b m n K hK fs 0 zeroR h hK
end Go.Proofs.YtigdcgklpapfbaaGreatDoor

set_option linter.unusedVariables false
namespace Go.Proofs.YtigdcgklpapfbaaGreatDoor.S9
open Go Go.Proofs Go.RowKit Go.Lib Go.Proofs.YtigdcgklpapfbaaGreatDoor

structure EInv (M : Nat) (w : World) (rs : List LectD) (ps : List ProbD) (cs : List Str) (v1 v2 : Value) (W : World) : Prop where
  row : ∃ Lr : List (LectD × LectA), Lr.map (·.1) = rs ∧ W.ownsRow w.heap.size 99 2 v1 Lr.length (lectVals Lr) ∧ ∀ p ∈ Lr, LectIn W (fun k => w.heap.size ≤ k ∧ k < W.heap.size ∧ some k ≠ v1.ownBlock ∧ some k ≠ v2.ownBlock) p.1 p.2
  probs : ProbsRow W w.heap.size v2 ps
  map : KMap W M cs
  gr : w.grownBy W (some M)
theorem EInv.start {M : Nat} {w : World} (h : KMap w M []) : EInv M w [] [] [] (.slice none 0 0) (.slice none 0 0) w :=
  ⟨⟨[], rfl, World.ownsRow_nil _ _ _ _, fun p hp => by simp at hp⟩, World.ownsRow_nil _ _ _ _, h, grown_none (below_grown (Below.refl _ w) (Nat.le_refl _))⟩
theorem EInv.below {M : Nat} {w W : World} {rs : List LectD} {ps : List ProbD} {cs : List Str} {v1 v2 : Value} (h : EInv M w rs ps cs v1 v2 W) (hM : M < w.heap.size) : Below M w W :=
  ⟨h.gr.os, h.gr.tape, h.gr.output, h.gr.size, fun k hk => h.gr.block k (by omega) (fun e => by injection e with e; omega)⟩
section
variable {M : Nat} {w W W' : World} {rs : List LectD} {ps : List ProbD} {cs cs' : List Str} {v1 v2 : Value}
/-- A call in between, which turns nothing but the map at most. -/
theorem EInv.past (h : EInv M w rs ps cs v1 v2 W) (hM : M < w.heap.size) (hg : W.grownBy W' (some M)) (hk : KMap W' M cs') : EInv M w rs ps cs' v1 v2 W' := by
  obtain ⟨⟨Lr, hL, ho, hr⟩, hp, _, hb⟩ := h
  have hs := hg.size
  have hbs := hb.size
  have e1 : some M ≠ v1.ownBlock := fun e => by have := (own_lt ho M e.symm).1; omega
  have e2 : some M ≠ v2.ownBlock := fun e => by have := (own_lt hp M e.symm).1; omega
  refine ⟨⟨Lr, hL, World.ownsRow.kept ho hg (.inr fun e => e1 e.symm), fun p hp' => ?_⟩, World.ownsRow.kept hp hg (.inr fun e => e2 e.symm), hk, hb.andThen hg (fun j hj => .inr hj)⟩
  exact ((hr p hp').kept (fun k hk => hg.block k hk.2.1 (fun e => by injection e; omega))).mono (fun k hk => ⟨hk.1, by omega, hk.2.2⟩)
theorem EInv.under (h : EInv M w rs ps cs v1 v2 W) (hM : M < w.heap.size) (hb : Below W.heap.size W W') : EInv M w rs ps cs v1 v2 W' :=
  h.past hM (grown_none ⟨hb.os, hb.tape, hb.output, hb.size, fun k hk _ => hb.block k hk⟩) (h.map.below hb)
/-- One problem more. -/
theorem EInv.prob {v2' : Value} {p : ProbD} (h : EInv M w rs ps cs v1 v2 W) (hM : M < w.heap.size) (hown : ProbsRow W' w.heap.size v2' (ps ++ [p])) (hg : W.grownBy W' v2.ownBlock) (hat : v2'.ownBlock = v2.ownBlock ∨ ∃ k, v2'.ownBlock = some k ∧ W.heap.size ≤ k) : EInv M w rs (ps ++ [p]) cs v1 v2' W' := by
  obtain ⟨⟨Lr, hL, ho, hr⟩, hp, hk, hb⟩ := h
  have hs := hg.size
  have hbs := hb.size
  have e2 : some M ≠ v2.ownBlock := fun e => by have := (own_lt hp M e.symm).1; omega
  refine ⟨⟨Lr, hL, World.ownsRow.kept ho hg (kinds_ne ho hp (by decide)), fun p hp' => ?_⟩, hown, hk.kept hg e2, hb.andThen hg (fun j hj => .inl (own_lt hp j hj).1)⟩
  refine ((hr p hp').kept (fun k hk => hg.block k hk.2.1 hk.2.2.2)).mono (fun k hk => ⟨hk.1, by omega, hk.2.2.1, ?_⟩)
  rcases hat with e | ⟨j, e, hj⟩
  · rw [e]; exact hk.2.2.2
  · rw [e]; intro e0; injection e0 with e0; have := hk.2.1; omega
/-- One room more. -/
theorem EInv.room {v1' : Value} {r : LectD} {q : LectA} {C : Nat} (h : EInv M w rs ps cs v1 v2 W) (hM : M < w.heap.size)
    (hr' : LectIn W (fun k => C ≤ k ∧ k < W.heap.size) r q) (hC : w.heap.size ≤ C) (h1 : ∀ k, v1.ownBlock = some k → k < C) (h2 : ∀ k, v2.ownBlock = some k → k < C)
    {Lr : List (LectD × LectA)} (hL : Lr.map (·.1) = rs) (ho : W.ownsRow w.heap.size 99 2 v1 Lr.length (lectVals Lr)) (hr : ∀ p ∈ Lr, LectIn W (fun k => w.heap.size ≤ k ∧ k < W.heap.size ∧ some k ≠ v1.ownBlock ∧ some k ≠ v2.ownBlock) p.1 p.2)
    (hown : W'.ownsRow w.heap.size 99 2 v1' (Lr.length + 1) (lectVals Lr ++ lectVs r q))
    (hg : W.grownBy W' v1.ownBlock) (hat : v1'.ownBlock = v1.ownBlock ∨ ∃ k, v1'.ownBlock = some k ∧ W.heap.size ≤ k) : EInv M w (rs ++ [r]) ps cs v1' v2 W' := by
  obtain ⟨_, hp, hk, hb⟩ := h
  have hs := hg.size
  have hbs := hb.size
  have e1 : some M ≠ v1.ownBlock := fun e => by have := (own_lt ho M e.symm).1; omega
  have hne : ∀ k, k < W.heap.size → some k ≠ v1.ownBlock → some k ≠ v1'.ownBlock := by
    intro k hk hne
    rcases hat with e | ⟨j, e, hj⟩
    · rw [e]; exact hne
    · rw [e]; intro e0; injection e0 with e0; omega
  refine ⟨⟨Lr ++ [(r, q)], by rw [List.map_append, hL]; rfl, ?_, fun p hp' => ?_⟩, World.ownsRow.kept hp hg (kinds_ne hp ho (by decide)), hk.kept hg e1, hb.andThen hg (fun j hj => .inl (own_lt ho j hj).1)⟩
  · rw [lectVals_app, List.length_append, List.length_singleton]
    simpa [lectVals] using hown
  · rcases List.mem_append.1 hp' with hp' | hp'
    · exact ((hr p hp').kept (fun k hk => hg.block k hk.2.1 hk.2.2.1)).mono (fun k hk => ⟨hk.1, by omega, hne k hk.2.1 hk.2.2.1, hk.2.2.2⟩)
    · rw [List.mem_singleton] at hp'
      subst hp'
      have k1 : ∀ k, C ≤ k → some k ≠ v1.ownBlock := fun k hk e => by have := h1 k e.symm; omega
      have k2 : ∀ k, C ≤ k → some k ≠ v2.ownBlock := fun k hk e => by have := h2 k e.symm; omega
      exact (hr'.kept (fun k hk => hg.block k hk.2 (k1 k hk.1))).mono (fun k hk => ⟨by omega, by omega, hne k hk.2 (k1 k hk.1), k2 k hk.1⟩)
end
theorem setF_code (d s b m n : Int) (K : Nat) (hK : 0 < K) (i : Nat) (x : Str) (r : LectD) (hx : x.length < K) (hr : r.1.length < K) : (setF d s b m n i x r).1.1.length < K := by
  match i with
  | 0 => simp only [setF]; split <;> simp_all
  | 1 => exact hr
  | j + 2 => exact hr
theorem efold_code (d s b m n : Int) (K : Nat) (hK : 0 < K) : ∀ (fs : List FieldD) (i : Nat) (r : LectD), (∀ f ∈ fs, f.1.length < K) → r.1.length < K → (efold d s b m n fs i r).1.1.length < K
  | [], _, r, _, hr => hr
  | f :: fs, i, r, h, hr => by
    unfold efold
    have h1 := setF_code d s b m n K hK i f.1 r (h f (by simp)) hr
    split
    · exact h1
    · exact efold_code d s b m n K hK fs (i + 1) _ (fun g hg => h g (by simp [hg])) h1
theorem entryM_code (d s b m n : Int) (K : Nat) (hK : 0 < K) (fs : List FieldD) (h : ∀ f ∈ fs, f.1.length < K) : (entryM d s b m n fs).1.1.length < K := by
  unfold entryM
  split
  · exact hK
  · exact efold_code d s b m n K hK fs 0 zeroR h hK
theorem lect_one (r : LectD) (q : LectA) : ∀ u ∈ lectVs r q, u.oneCell' = true := by
  intro u hu
  simp [lectVs] at hu
  rcases hu with rfl | rfl <;> rfl
/-- What reading entries leaves behind. -/
def EntsOut (M : Nat) (o : List LectD × List ProbD) (w : World) (e : Ending) (w' : World) : Prop := ∃ v1 v2, e = .returned (.tuple #[v1, v2]) ∧ EInv M w o.1 o.2 (codesL o.1) v1 v2 w'
end Go.Proofs.YtigdcgklpapfbaaGreatDoor.S9

set_option linter.unusedVariables false
namespace Go.Proofs.YtigdcgklpapfbaaGreatDoor
open Go Go.Proofs Go.RowKit Go.Lib

/-- append to a row of the call's own, as one step of a region that draws its order; the row stays or is new. -/
theorem step_append_own_at {P : Program} {ops : Array Oper} {o : Oper} {a : Act} {w : World} {K : Act → World → Prop} {Q : Exit → Act → World → Prop} {E : Prop}
    (hg : o.guard = none) (s x : Operand) (t : TypeId) (hop : o.op = Op.call { callee := Callee.builtin Builtin.append, args := #[s, x], argTypes := #[t, t] })
    (B : Nat) (e : TypeId) (i : TypeInfo) (z : Value) (size bytes : Nat) (h1 : P.underlying t = some (.slice e)) (h2 : P.info? e = some i) (h3 : i.zero = some z) (h4 : i.size = size) (h5 : i.bytes = bytes) (h6 : z.cells.size = size) (h7 : 0 < size)
    (v : Value) (n : Nat) (xs : List Value) (hs : a.eval s = v) (hown : w.ownsRow B e size v n xs)
    (ad : Addr) (m c : Nat) (news : List Value) (hx : a.eval x = .slice (some ad) m c) (hn : news.length = m * size) (hc : ∀ j u, news[j]? = some u → w.cell? (ad.add j) = some u) (h1c : ∀ u ∈ news, u.oneCell' = true)
    (b1 : n + m ≤ maxLen) (b2 : (n + m) * bytes ≤ 140737488355328) (hB : B ≤ w.heap.size)
    (hK : ∀ v' w', w'.ownsRow B e size v' (n + m) (xs ++ news) → w.grownBy w' v.ownBlock → (v'.ownBlock = v.ownBlock ∨ v'.ownBlock = some w.heap.size) → K (a.put o.dst v') w') :
    if Region.wanted o (yielded ops a.tmps) = true then Oper.wp P o a w K Q else E := by
  have hw : Region.wanted o (yielded ops a.tmps) = true := by simp [Region.wanted, hg]
  rw [if_pos hw]
  obtain ⟨v', w', hrun, r1, r2, _, r3⟩ := run_append_own_at (P := P) (w := w) B t o.type e i z size bytes h1 h2 h3 h4 h5 h6 h7 v n xs hown ad m c news hn hc h1c b1 b2 hB
  unfold Oper.wp
  simp [execOp, hop, resolve, invoke, builtin, hs, hx, hrun, Result.andThen]
  exact hK v' w' r1 r2 r3
theorem row_low {w : World} {e z n B B' : Nat} {v : Value} {xs : List Value} (h : w.ownsRow B e z v n xs) (hB : B' ≤ B) : w.ownsRow B' e z v n xs := by
  obtain ⟨h1, h2⟩ := h
  refine ⟨h1, ?_⟩
  rcases h2 with h2 | ⟨g, cap, cur, hv, hg, r⟩
  · exact .inl h2
  · exact .inr ⟨g, cap, cur, hv, Nat.le_trans hB hg, r⟩
def personS : Nat → Str
  | 0 => [97, 100, 97]
  | 1 => [98, 111, 98]
  | 2 => [99, 121]
  | _ => []
/-- The table of people. -/
structure PeopleAt (w : World) (PB po pc : Nat) : Prop where
  c0 : w.cell? ⟨0, 0, none⟩ = some (.slice (some ⟨PB, po, none⟩) 3 pc)
  cs : ∀ j, j < 3 → w.cell? ⟨PB, po + j, none⟩ = some (.string (ba (personS j)))
theorem PeopleAt.kept {w w' : World} {PB po pc : Nat} (h : PeopleAt w PB po pc) (h1 : w'.heap[0]? = w.heap[0]?) (h2 : w'.heap[PB]? = w.heap[PB]?) : PeopleAt w' PB po pc :=
  ⟨(World.cell?_of_block (w := w) h1).trans h.c0, fun j hj => (World.cell?_of_block (w := w) h2).trans (h.cs j hj)⟩
/-- Lecturers as they are made. -/
structure StaffOk (d s : Int) (n : Nat) (ls : List LectD) : Prop where
  len : ls.length ≤ 3
  at_ : ∀ (j : Nat) (x : LectD), ls[j]? = some x → x.1 = personS j ∧ x.2.length ≤ 2 ∧ ∀ t ∈ x.2, MadeT d s n t.1 t.2.1 t.2.2.1 t.2.2.2
theorem StaffOk.app {d s : Int} {n : Nat} {ls : List LectD} {x : LectD} (h : StaffOk d s n ls) (hl : ls.length < 3) (hx : x.1 = personS ls.length ∧ x.2.length ≤ 2 ∧ ∀ t ∈ x.2, MadeT d s n t.1 t.2.1 t.2.2.1 t.2.2.2) : StaffOk d s n (ls ++ [x]) := by
  refine ⟨by simp; omega, fun j y hj => ?_⟩
  rcases Nat.lt_trichotomy j ls.length with k | k | k
  · rw [List.getElem?_append_left k] at hj
    exact h.at_ j y hj
  · subst k
    rw [List.getElem?_append_right (Nat.le_refl _)] at hj
    simp at hj
    subst hj
    exact hx
  · rw [List.getElem?_append_right (by omega)] at hj
    rw [List.getElem?_eq_none (by simp; omega)] at hj
    simp at hj
/-- What stands while lecturers are made. -/
structure SS (w0 : World) (g c : Nat) (A : Option Addr) (L : List Int) (d s b m : Int) (n PB po pc : Nat) (ls : List LectD) (v : Value) (w : World) : Prop where
  x : Cells4 24 w w0.heap.size d s b m
  e : ∃ k, DE w0 g c A L k w
  row : ∃ Lr : List (LectD × LectA), Lr.map (·.1) = ls ∧ w.ownsRow (w0.heap.size + 1) 99 2 v Lr.length (lectVals Lr) ∧ ∀ p ∈ Lr, LectIn w (fun k => w0.heap.size + 1 ≤ k ∧ k < w.heap.size ∧ some k ≠ v.ownBlock) p.1 p.2
  p : PeopleAt w PB po pc
  g0 : g < w0.heap.size
  g1 : 0 < g
  g2 : PB < g
  ok : StaffOk d s n ls
section
variable {w0 w w' : World} {g c : Nat} {A : Option Addr} {L : List Int} {d s b m : Int} {n PB po pc : Nat} {ls : List LectD} {v v' : Value}
theorem SS.played {k' : Nat} (h : SS w0 g c A L d s b m n PB po pc ls v w) (he : DE w g c A L k' w') : SS w0 g c A L d s b m n PB po pc ls v w' := by
  obtain ⟨k, h0⟩ := h.e
  have hg := h.g0
  have hg1 := h.g1
  have hg2 := h.g2
  have hl := h.x.lt
  have hz := he.p.size
  obtain ⟨Lr, hL, ho, hr⟩ := h.row
  exact ⟨h.x.played he.p (by omega), ⟨k', h0.trans he⟩, ⟨Lr, hL, he.p.row ho (fun k hk => by have h1 := World.ownsRow.lt ho k hk; omega), fun q hq => ((hr q hq).kept (fun k hk => he.p.block k hk.2.1 (by omega))).mono (fun k hk => ⟨hk.1, by omega, hk.2.2⟩)⟩,
    h.p.kept (he.p.block _ (by omega) (by omega)) (he.p.block _ (by omega) (by omega)), hg, hg1, hg2, h.ok⟩
theorem SS.next (h : SS w0 g c A L d s b m n PB po pc ls v w) (k : Below w.heap.size w w') : SS w0 g c A L d s b m n PB po pc ls v w' := by
  obtain ⟨j, h0⟩ := h.e
  have hg := h.g0
  have hg1 := h.g1
  have hg2 := h.g2
  have hl := h.x.lt
  have hz := k.size
  obtain ⟨Lr, hL, ho, hr⟩ := h.row
  exact ⟨h.x.under k, ⟨j, h0.below (k.mono (by omega)) hg⟩, ⟨Lr, hL, row_under ho k, fun q hq => ((hr q hq).kept (fun i hi => k.block i hi.2.1)).mono (fun i hi => ⟨hi.1, by omega, hi.2.2⟩)⟩,
    h.p.kept (k.block _ (by omega)) (k.block _ (by omega)), hg, hg1, hg2, h.ok⟩
theorem SS.cells (h : SS w0 g c A L d s b m n PB po pc ls v w) {i : Nat} (hi : i < 3) :
    w.cell? ⟨0, 0, none⟩ = some (.slice (some ⟨PB, po, none⟩) 3 pc) ∧ w.cell? ⟨PB, po + i, none⟩ = some (.string (ba (personS i))) ∧ w.cell? ⟨w0.heap.size, 0, none⟩ = some (.int .i64 d) ∧ w.cell? ⟨w0.heap.size, 1, none⟩ = some (.int .i64 s) ∧ w.cell? ⟨w0.heap.size, 2, none⟩ = some (.int .i64 b) ∧ w.cell? ⟨w0.heap.size, 3, none⟩ = some (.int .i64 m) :=
  ⟨h.p.c0, h.p.cs i hi, h.x.box.c0, h.x.box.c1, h.x.box.c2, h.x.box.c3⟩
theorem SS.dice (h : SS w0 g c A L d s b m n PB po pc ls v w) : ∃ k, DiceAt w g A L c k := by
  obtain ⟨k, h0⟩ := h.e
  exact ⟨k, h0.d⟩
theorem SS.app {r : LectD} {q : LectA} {C : Nat} (h : SS w0 g c A L d s b m n PB po pc ls v w)
    (hr' : LectIn w (fun k => C ≤ k ∧ k < w.heap.size) r q) (hC : w0.heap.size + 1 ≤ C) (h1 : ∀ k, v.ownBlock = some k → k < C)
    {Lr : List (LectD × LectA)} (hL : Lr.map (·.1) = ls) (ho : w.ownsRow (w0.heap.size + 1) 99 2 v Lr.length (lectVals Lr)) (hr : ∀ p ∈ Lr, LectIn w (fun k => w0.heap.size + 1 ≤ k ∧ k < w.heap.size ∧ some k ≠ v.ownBlock) p.1 p.2)
    (hown : w'.ownsRow (w0.heap.size + 1) 99 2 v' (Lr.length + 1) (lectVals Lr ++ lectVs r q))
    (hg : w.grownBy w' v.ownBlock) (hat : v'.ownBlock = v.ownBlock ∨ v'.ownBlock = some w.heap.size) (hk : StaffOk d s n (ls ++ [r])) : SS w0 g c A L d s b m n PB po pc (ls ++ [r]) v' w' := by
  obtain ⟨j, h0⟩ := h.e
  have hg0 := h.g0
  have hg1 := h.g1
  have hg2 := h.g2
  have hl := h.x.lt
  have hs := hg.size
  have hb : Below (w0.heap.size + 1) w w' := (Below.refl _ w).grown hg (by omega) (fun k hk => (World.ownsRow.lt ho k hk).1)
  have hne : ∀ k, k < w.heap.size → some k ≠ v.ownBlock → some k ≠ v'.ownBlock := by
    intro k hk hne
    rcases hat with e | e
    · rw [e]; exact hne
    · rw [e]; intro e0; injection e0 with e0; omega
  refine ⟨(hb.block _ (by omega)).trans h.x, ⟨j, h0.below (hb.mono (by omega)) hg0⟩, ⟨Lr ++ [(r, q)], by rw [List.map_append, hL]; rfl, ?_, fun p hp' => ?_⟩, h.p.kept (hb.block _ (by omega)) (hb.block _ (by omega)), hg0, hg1, hg2, hk⟩
  · rw [lectVals_app, List.length_append, List.length_singleton]
    simpa [lectVals] using hown
  · rcases List.mem_append.1 hp' with hp' | hp'
    · exact ((hr p hp').kept (fun k hk => hg.block k hk.2.1 hk.2.2)).mono (fun k hk => ⟨hk.1, by omega, hne k hk.2.1 hk.2.2⟩)
    · rw [List.mem_singleton] at hp'
      subst hp'
      have k1 : ∀ k, C ≤ k → some k ≠ v.ownBlock := fun k hk e => by have := h1 k e.symm; omega
      exact (hr'.kept (fun k hk => hg.block k hk.2 (k1 k hk.1))).mono (fun k hk => ⟨by omega, by omega, hne k hk.2 (k1 k hk.1)⟩)
end
theorem SS.first {w : World} {g c k PB po pc : Nat} {A : Option Addr} {L : List Int} (h : DiceAt w g A L c k) (d s b m : Int) (n : Nat) (hp : PeopleAt w PB po pc) (h1 : 0 < g) (h2 : PB < g) :
    SS w g c A L d s b m n PB po pc [] (.slice none 0 0) (w.alloc (.cells #[.int .i64 d, .int .i64 s, .int .i64 b, .int .i64 m] 24)) := by
  have hl := h.lt
  exact ⟨Cells4.new w d s b m _, ⟨k, (DE.first h).alloc _⟩, ⟨[], rfl, World.ownsRow_nil _ _ _ _, fun p hp => by simp at hp⟩, hp.kept (heap_alloc_old w _ (by omega)) (heap_alloc_old w _ (by omega)), hl, h1, h2, ⟨by simp, fun j x hj => by simp at hj⟩⟩
theorem lect_cells (w : World) (v0 v1 : Value) : ∀ (j : Nat) (u : Value), [v0, v1][j]? = some u → (w.alloc (.cells #[v0, v1] 99)).cell? ((⟨w.heap.size, 0, none⟩ : Addr).add j) = some u := by
  intro j u h
  obtain ⟨k0, k1⟩ := (Box2.new w v0 v1).cells
  rw [Addr.add_lit]
  match j, h with
  | 0, h => exact k0.trans h
  | 1, h => exact k1.trans h
  | j + 2, h => simp at h
/-- What Staff hands back. -/
def StaffP (d s : Int) (n : Nat) (g c : Nat) (A : Option Addr) (L : List Int) (w0 : World) (e : Ending) (w' : World) : Prop :=
  ∃ (ls : List LectD) (v : Value) (k' : Nat), e = .returned v ∧ StaffOk d s n ls ∧ LectRow w' w0.heap.size (fun k => w0.heap.size ≤ k ∧ k < w'.heap.size) v ls ∧ DE w0 g c A L k' w'
set_option maxHeartbeats 16000000 in
set_option maxRecDepth 100000 in
theorem dstaff_any (g c k PB po pc : Nat) (A : Option Addr) (L : List Int) (d s b m : Int) (n : Nat) (h1 : 1 ≤ n) (h2 : n ≤ 20) (hd1 : 1 ≤ d) (hd2 : d ≤ 100) (hs1 : 1 ≤ s) (hs2 : s ≤ 100) (w : World) (h : DiceAt w g A L c k)
    (hp : PeopleAt w PB po pc) (hg1 : 0 < g) (hg2 : PB < g) :
    Calls Tryz.prog 28 #[.pointer (some ⟨g, 0, none⟩), .agg #[.int .i64 d, .int .i64 s, .int .i64 b, .int .i64 m], .int .i64 (n : Int)] w (StaffP d s n g c A L w) := by
  obtain ⟨i5, hi5, hz5, hsi5, hby5⟩ := info_parts infoLect
  have H0 := hid (SS.first h d s b m n hp hg1 hg2)
  have HT : Hid (∀ (W : World) (r : Nat), r ≤ 2 → (∃ k, DiceAt W g A L c k) → Calls Tryz.prog 63 #[.pointer (some ⟨g, 0, none⟩), .agg #[.int .i64 d, .int .i64 s, .int .i64 b, .int .i64 m], .int .i64 (n : Int), .int .i64 (r : Int)] W fun e w' =>
      ∃ (ts : List TimeD) (At : Option Addr) (ct : Nat), e = .returned (.slice At ts.length ct) ∧ (ts.length ≤ 2 ∧ (∀ t ∈ ts, MadeT d s n t.1 t.2.1 t.2.2.1 t.2.2.2)) ∧ (∀ X : Str, LectIn w' (fun k => W.heap.size ≤ k ∧ k < w'.heap.size) (X, ts) (At, ct)) ∧ ∃ k', DE W g c A L k' w') := hid (fun W r hr ⟨k, hd⟩ => by
    refine (dtimes_any g c k A L d s b m n r h1 h2 hd1 hd2 hs1 hs2 (by omega) W hd).mono ?_
    rintro e w' ⟨ts, v, k', rfl, hlen, hok, hrow, he⟩
    obtain ⟨At, ct, rfl, e1, e2, e3⟩ := TimeRow.timesIn hrow (fun t ht => by have := (hok t ht).2.2.1; omega)
    exact ⟨ts, At, ct, rfl, ⟨by omega, hok⟩, fun X => ⟨e3, e1, e2⟩, k', he⟩)
  have HN : Hid (∀ (W : World) (q : Int), 1 ≤ q → q ≤ 4294967296 → (∃ k, DiceAt W g A L c k) → Calls Tryz.prog 26 #[.pointer (some ⟨g, 0, none⟩), .int .i64 q] W fun e w' => ∃ r : Nat, e = .returned (.int .i64 (r : Int)) ∧ (r : Int) < q ∧ ∃ k', DE W g c A L k' w') := hid (fun W q hq hq2 ⟨k, hd⟩ => by
    refine (next_any g c k A L q hq2 W hd).mono ?_
    rintro e w' ⟨⟨r, rfl, hr⟩, ⟨k', hd'⟩, hR⟩
    obtain ⟨hr0, hr1⟩ := hr hq
    obtain ⟨q0, rfl⟩ : ∃ q : Nat, r = (q : Int) := ⟨r.toNat, by omega⟩
    exact ⟨q0, rfl, hr1, k', (DE.first hd).next hd' hR⟩)
  clear h hp
  go_enter Tryz.func28, Tryz.ntmps28
  go_wp2_with fail
  generalize w.alloc (.cells #[.int .i64 d, .int .i64 s, .int .i64 b, .int .i64 m] 24) = w1 at H0 ⊢
  refine (HN.out _ 4 (by omega) (by omega) H0.out.dice).mono ?_
  rintro e w2 ⟨q0, rfl, hq0, k1, he1⟩
  have HT2 := hid (H0.out.played he1)
  clear he1 H0
  go_wp2
  go_loopw [7, 8] (fun v nv wr => ∃ (q i : Nat) (ls : List LectD) (Ar : Option Addr) (cr : Nat), v = .slice Ar i cr ∧ nv = .int .i64 (q : Int) ∧ q + i ≤ 3 ∧ Hid (ls.length = i) ∧ Hid (SS w g c A L d s b m n PB po pc ls (.slice Ar i cr) wr)) (fun _ nv _ => (RowKit.intOf nv).toNat)
  case atStart => exact ⟨q0, 0, [], none, 0, rfl, rfl, by omega, hid rfl, HT2⟩
  case round =>
    obtain ⟨q, i, ls, Ar, cr, rfl, rfl, hq, hli, hS⟩ := hrel
    by_cases hz : 0 < q
    · have hqz : (0 : Int) < (q : Int) := by omega
      have qm : IntKind.i64.wrap ((q : Int) - 1) = (q : Int) - 1 := IntWalk.i64_in _ (by omega)
      have hi3 : (i : Int) < 3 := by omega
      have hi3n : i < 3 := by omega
      have HC : Hid (w.heap.size + 1 ≤ wr.heap.size) := hid (by have := hS.out.x.lt; omega)
      obtain ⟨Lr, hL, ho, hr⟩ := hS.out.row
      have hl0 : Lr.length = i := by rw [← hli.out, ← hL, List.length_map]
      have HV : Hid (∀ k, (Value.slice Ar i cr).ownBlock = some k → k < wr.heap.size) := hid (fun k hk => (World.ownsRow.lt ho k hk).2)
      have HM1 : Hid (i + 1 ≤ maxLen) := by unfold maxLen; exact hid (by omega)
      have HM2 : Hid ((i + 1) * 40 ≤ 140737488355328) := hid (by omega)
      clear Lr hL ho hr hl0
      go_upto_region 5 with fail
      have hk' : SS w g c A L d s b m n PB po pc ls (.slice Ar i cr) wr.drew := hS.out.next (Below.refl _ wr).drew
      have HZ : Hid (wr.heap.size ≤ wr.drew.heap.size) := hid (Below.refl wr.heap.size wr).drew.size
      go_region_held3 (fun w' => w'.cell? ⟨0, 0, none⟩ = some (.slice (some ⟨PB, po, none⟩) 3 pc) ∧ w'.cell? ⟨PB, po + i, none⟩ = some (.string (ba (personS i))) ∧ w'.cell? ⟨w.heap.size, 0, none⟩ = some (.int .i64 d) ∧ w'.cell? ⟨w.heap.size, 1, none⟩ = some (.int .i64 s) ∧ w'.cell? ⟨w.heap.size, 2, none⟩ = some (.int .i64 b) ∧ w'.cell? ⟨w.heap.size, 3, none⟩ = some (.int .i64 m))
        (first | with_reducible exact hk'.cells hi3n | with_reducible exact (hk'.next ((Below.refl _ _).alloc (Nat.le_refl _) _)).cells hi3n)
        (first
          | (go_at_call 26; refine (HN.out _ 3 (by omega) (by omega) hk'.dice).mono ?_; rintro e wN ⟨r, rfl, hr3, kN, heN⟩; have HZN := hid (Nat.le_trans HZ.out heN.p.size); have hk' := hk'.played heN; clear heN)
          | (go_at_call 63; refine (HT.out _ r (by omega) hk'.dice).mono ?_; rintro e wT ⟨ts, At, ct, rfl, hts, hin, kT, heT⟩; have HTS := hid hts; have HIN := hid (fun X => (hin X).mono (P' := fun k => wr.heap.size ≤ k ∧ k < wT.heap.size) (fun k hk => ⟨Nat.le_trans HZN.out hk.1, hk.2⟩)); have hk' := hk'.played heT; clear heT hts hin)
          | (obtain ⟨Lr, hL, ho, hr⟩ := (hk'.next ((Below.refl _ wT).alloc (Nat.le_refl _) (.cells #[.string (ba (personS i)), .slice At ts.length ct] 99))).row
             have hl0 : Lr.length = i := by rw [← hli.out, ← hL, List.length_map]
             have ho' := ho
             rw [hl0] at ho'
             refine step_append_own_at rfl (.tmp 15) (.tmp 28) 58 rfl (w.heap.size + 1) 99 i5 (.agg #[.string ⟨#[]⟩, .slice none 0 0]) 2 40 Tryz.underlying58 hi5 hz5 hsi5 hby5 rfl (by decide) (.slice Ar i cr) i (lectVals Lr) (by simp [Act.eval]) ho' ⟨wT.heap.size, 0, none⟩ 1 1 [.string (ba (personS i)), .slice At ts.length ct] (by simp [Act.eval]) rfl (lect_cells wT _ _) (S9.lect_one (personS i, ts) (At, ct)) HM1.out HM2.out (by have := hk'.x.lt; simp; omega) ?_
             intro v' wA hown hgrow hat
             obtain ⟨gA, cA, rfl⟩ := ownsRow_succ (k := i) hown
             have HA := hid (SS.app (C := wr.heap.size) (r := (personS i, ts)) (q := (At, ct)) (hk'.next ((Below.refl _ wT).alloc (Nat.le_refl _) (.cells #[.string (ba (personS i)), .slice At ts.length ct] 99))) (((HIN.out (personS i)).kept (fun k hk => heap_alloc_old wT _ hk.2)).mono (fun k hk => ⟨hk.1, by simp; omega⟩)) HC.out HV.out hL ho hr (by rw [hl0]; exact hown) hgrow hat (hk'.ok.app (by rw [hli.out]; exact hi3n) ⟨by rw [hli.out], HTS.out.1, HTS.out.2⟩))
             clear hown hgrow hat hL ho hr ho' hl0
             have hk' := HA.out))
      all_goals
        go_wp2
        go_roundw
        case rel => exact ⟨q - 1, i + 1, ls ++ [(personS i, ts)], _, _, rfl, by congr 1; omega, by omega, hid (by rw [List.length_append, hli.out]; rfl), HA⟩
        case measure => simp [RowKit.intOf]; omega
    · have hqz : ¬ (0 : Int) < (q : Int) := by omega
      obtain ⟨k2, he2⟩ := hS.out.e
      obtain ⟨Lr, hL, ho, hr⟩ := hS.out.row
      have hl0 : Lr.length = ls.length := by rw [← hL, List.length_map]
      have HR : Hid (StaffP d s n g c A L w (.returned (.slice Ar i cr)) wr) := hid ⟨ls, _, k2, rfl, hS.out.ok, ⟨Lr, hL, by rw [← hl0]; exact row_low ho (by omega), fun p hp => (hr p hp).mono (fun k hk => ⟨by omega, hk.2.1⟩)⟩, he2⟩
      clear he2 hS hL ho hr hl0
      go_wp2
      go_ret
      exact HR.out
end Go.Proofs.YtigdcgklpapfbaaGreatDoor

set_option linter.unusedVariables false
namespace Go.Proofs.YtigdcgklpapfbaaGreatDoor.S10
open Go Go.Proofs Go.RowKit Go.Lib Go.Proofs.YtigdcgklpapfbaaGreatDoor

theorem colsM_mem : ∀ (c : Int) (r : List Str) (f : FieldD), f ∈ colsM c r → f.1 ∈ r
  | c, [], f, h => by simp [colsM] at h
  | c, s :: r, f, h => by
    simp only [colsM, List.mem_cons] at h
    rcases h with rfl | h
    · simp
    · exact List.mem_cons_of_mem _ (colsM_mem _ r f h)
theorem plainM_mem {l : List (List Str)} {x : RecD} (h : x ∈ plainM l) : ∀ f ∈ x.2, ∃ r ∈ l, f.1 ∈ r := by
  unfold plainM at h
  obtain ⟨i, hi, rfl⟩ := List.mem_mapIdx.1 h
  exact fun f hf => ⟨l[i], List.getElem_mem hi, colsM_mem _ _ f hf⟩
def subs : List Str → List (List Str)
  | [] => [[]]
  | a :: l => subs l ++ (subs l).map (a :: ·)
theorem mem_subs {l' l : List Str} (h : l'.Sublist l) : l' ∈ subs l := by
  induction h with
  | slnil => simp [subs]
  | cons a _ ih => exact List.mem_append.2 (.inl ih)
  | cons_cons a _ ih => exact List.mem_append.2 (.inr (List.mem_map.2 ⟨_, ih, rfl⟩))
theorem feats_len : ∀ l ∈ subs featureS, (featsS l).length ≤ 1000 := by decide +kernel
theorem staff_len : ∀ l ∈ subs peopleS, (featsS l).length ≤ 1000 := by decide +kernel
theorem codes_len : ∀ j : Fin 6, (codeS j.val).length ≤ 1000 := by decide
theorem class_small {d s b m : Int} {n : Nat} {names : List Str} {ls : List ClassD} (hn : names.Sublist peopleS) (h : ClassesOk d s n names ls) : ∀ r ∈ ls.map (rowK d s b m n), r.length = 9 ∧ ∀ x ∈ r, x.length ≤ 1000 := by
  intro r hr
  obtain ⟨x, hx, rfl⟩ := List.mem_map.1 hr
  obtain ⟨j, hj, rfl⟩ := List.mem_iff_getElem.1 hx
  have k := h.at_ j ls[j] (List.getElem?_eq_getElem hj)
  have h6 := h.len
  refine ⟨rfl, fun y hy => ?_⟩
  obtain ⟨kc, hkc, hc⟩ := k.course
  obtain ⟨kp, hkp, hp⟩ := k.part
  simp only [rowK, List.mem_cons, List.not_mem_nil, or_false] at hy
  rcases hy with rfl | rfl | rfl | rfl | rfl | rfl | rfl | rfl | rfl
  · rw [k.code]; exact codes_len ⟨j, by omega⟩
  · rw [hc]
    rcases (show kc = 0 ∨ kc = 1 ∨ kc = 2 by omega) with rfl | rfl | rfl <;> decide
  · rw [hp]
    rcases (show kp = 0 ∨ kp = 1 by omega) with rfl | rfl <;> decide
  · have := S3.dec_len ls[j].len.toNat 4 (by have := k.len; omega) (by omega)
    omega
  · unfold patsS
    have h1 := joinZ_len 47 (ls[j].pats.map (patS n)) (fun p hp => by obtain ⟨t, _, rfl⟩ := List.mem_map.1 hp; exact patS_len _ _)
    rw [List.length_map] at h1
    have := k.pats.2.1
    omega
  · have := S3.dec_len ls[j].seats.toNat 4 (by rcases k.seats with e | e | e | e <;> omega) (by omega)
    omega
  · exact feats_len _ (mem_subs k.feats)
  · exact staff_len _ (mem_subs (k.staff.trans hn))
  · unfold startsS
    have h1 := semi_len300 (ls[j].starts.map (startS d s b m)) (fun p hp => by obtain ⟨t, _, rfl⟩ := List.mem_map.1 hp; exact timeS_len _ _ _ _ _ _)
    rw [List.length_map] at h1
    have := k.starts.2.1
    omega
theorem staff_names {d s : Int} {n : Nat} {ls : List LectD} (h : StaffOk d s n ls) : (ls.map (·.1)).Sublist peopleS := by
  have h3 := h.len
  match ls, h3, h with
  | [], _, _ => exact List.nil_sublist _
  | [x], _, h =>
    have k0 := (h.at_ 0 x rfl).1
    simp only [List.map_cons, List.map_nil, k0]
    decide
  | [x, y], _, h =>
    have k0 := (h.at_ 0 x rfl).1
    have k1 := (h.at_ 1 y rfl).1
    simp only [List.map_cons, List.map_nil, k0, k1]
    decide
  | [x, y, z], _, h =>
    have k0 := (h.at_ 0 x rfl).1
    have k1 := (h.at_ 1 y rfl).1
    have k2 := (h.at_ 2 z rfl).1
    simp only [List.map_cons, List.map_nil, k0, k1, k2]
    decide
  | x :: y :: z :: u :: r, h3, _ => simp at h3
theorem staffIn_of {w : World} {P : Nat → Prop} {A : Option Addr} {ls : List LectD} (h : LectsIn w P A ls) (hP : ∀ k, P k → k < w.heap.size) : StaffIn w A (ls.map (·.1)) := by
  rcases h with h | ⟨b, off, hA, hb, hc⟩
  · exact .inl (by rw [h]; rfl)
  · refine .inr ⟨b, off, hA, hP b hb, fun j t hj => ?_⟩
    rw [List.getElem?_map] at hj
    obtain ⟨x, hx, rfl⟩ := Option.map_eq_some_iff.1 hj
    obtain ⟨q, _, h2⟩ := hc j x hx
    exact h2 0 _ rfl
/-- The grid's box and the dice. -/
structure CG (w0 : World) (g c : Nat) (A : Option Addr) (L : List Int) (GB : Nat) (d s b m : Int) (w : World) : Prop where
  e : ∃ k, DE w0 g c A L k w
  x : Cells4 24 w GB d s b m
  ne : GB ≠ g
theorem CG.played {w0 w w' : World} {g c GB k' : Nat} {A : Option Addr} {L : List Int} {d s b m : Int} (h : CG w0 g c A L GB d s b m w) (he : DE w g c A L k' w') : CG w0 g c A L GB d s b m w' := by
  obtain ⟨k, h0⟩ := h.e
  exact ⟨⟨k', h0.trans he⟩, (he.p.block _ h.x.lt h.ne).trans h.x, h.ne⟩
theorem CG.next {w0 w w' : World} {g c GB : Nat} {A : Option Addr} {L : List Int} {d s b m : Int} (h : CG w0 g c A L GB d s b m w) (hg : g < w0.heap.size) (k : Below w.heap.size w w') : CG w0 g c A L GB d s b m w' := by
  obtain ⟨j, h0⟩ := h.e
  exact ⟨⟨j, h0.below (k.mono h0.p.size) hg⟩, h.x.under k, h.ne⟩
theorem CG.cells {w0 w : World} {g c GB : Nat} {A : Option Addr} {L : List Int} {d s b m : Int} (h : CG w0 g c A L GB d s b m w) :
    w.cell? ⟨GB, 0, none⟩ = some (.int .i64 d) ∧ w.cell? ⟨GB, 1, none⟩ = some (.int .i64 s) ∧ w.cell? ⟨GB, 2, none⟩ = some (.int .i64 b) ∧ w.cell? ⟨GB, 3, none⟩ = some (.int .i64 m) := ⟨h.x.box.c0, h.x.box.c1, h.x.box.c2, h.x.box.c3⟩
/-- Behind Write: the grid's box and the classes. -/
structure RKC (w0 : World) (GB M : Nat) (A : Option Addr) (ls : List ClassD) (d s b m : Int) (w : World) : Prop where
  bw : Below w0.heap.size w0 w
  g : Box4 w GB d s b m
  l : ClassesIn w (fun k => k < M) A ls
  z : M ≤ w.heap.size
theorem RKC.next {w0 w w' : World} {GB M : Nat} {A : Option Addr} {ls : List ClassD} {d s b m : Int} (h : RKC w0 GB M A ls d s b m w) (k : Below w.heap.size w w') : RKC w0 GB M A ls d s b m w' :=
  ⟨h.bw.trans (k.mono h.bw.size), h.g.next k h.g.lt, h.l.kept (fun i hi => k.block i (Nat.lt_of_lt_of_le hi h.z)), Nat.le_trans h.z k.size⟩
theorem RKC.cells {w0 w : World} {GB M : Nat} {A : Option Addr} {ls : List ClassD} {d s b m : Int} (h : RKC w0 GB M A ls d s b m w) :
    w.cell? ⟨GB, 0, none⟩ = some (.int .i64 d) ∧ w.cell? ⟨GB, 1, none⟩ = some (.int .i64 s) ∧ w.cell? ⟨GB, 2, none⟩ = some (.int .i64 b) ∧ w.cell? ⟨GB, 3, none⟩ = some (.int .i64 m) := ⟨h.g.c0, h.g.c1, h.g.c2, h.g.c3⟩
end Go.Proofs.YtigdcgklpapfbaaGreatDoor.S10

set_option linter.unusedVariables false
namespace Go.Proofs.YtigdcgklpapfbaaGreatDoor.S10
open Go Go.Proofs Go.RowKit Go.Lib Go.Proofs.YtigdcgklpapfbaaGreatDoor

theorem two_boxes (w : World) (a b : Array Value) :
    BoxC ((w.alloc (.cells a 33)).alloc (.cells b 33)) w.heap.size a ∧ BoxC ((w.alloc (.cells a 33)).alloc (.cells b 33)) (w.heap.size + 1) b ∧ Below w.heap.size w ((w.alloc (.cells a 33)).alloc (.cells b 33)) := by
  have hs : (w.alloc (.cells a 33)).heap.size = w.heap.size + 1 := by simp
  have h1 := BoxC.new w a
  have hb1 := (Below.refl w.heap.size w).alloc (Nat.le_refl _) (.cells a 33)
  generalize w.alloc (.cells a 33) = w1 at hs h1 hb1 ⊢
  have h2 := BoxC.new w1 b
  have hb2 := (Below.refl w1.heap.size w1).alloc (Nat.le_refl _) (.cells b 33)
  rw [hs] at h2
  exact ⟨h1.next hb2, h2, hb1.trans (hb2.mono (by omega))⟩
end Go.Proofs.YtigdcgklpapfbaaGreatDoor.S10
