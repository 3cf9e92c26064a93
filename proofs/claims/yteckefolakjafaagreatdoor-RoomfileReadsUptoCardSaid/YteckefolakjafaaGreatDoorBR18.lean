/-
  The parts of a list: the library's strings.SplitSeq at ';' (its iterator, over whatever body the loop has). Condition: the string has fewer than 2^62 bytes.
  The program's List: its contract (listM). Conditions: the library's variables hold what its text lays; the string has fewer than 2^32 - 15 bytes.
  The program's List: its walk. Conditions: the library's variables hold what its text lays; the string has fewer than 2^32 - 15 bytes.
  What List gives for a range of made codes (a letter and a number with a width). Mathematics alone. Conditions: as the lemmas state.
-/
import Derived.Test.YteckefolakjafaaGreatDoorBR17
import Derived.Lib.IndexLaws
import Derived.WalkKit
import Derived.TacticsInMore
import Derived.LoopNIn
import Derived.LoopIn
set_option linter.unusedVariables false
namespace Go.Proofs.YteckefolakjafaaGreatDoor.S3
open Go Go.Proofs Go.RowKit Go.Lib
attribute [local go_sem] Oper.semAt_some

/-- The parts between the semicolons. -/
def splitL : Str → List Str
  | [] => [[]]
  | c :: s => if c = 59 then [] :: splitL s else (c :: (splitL s).headD []) :: (splitL s).tail
theorem splitL_ne (l : Str) : splitL l ≠ [] := by
  cases l with
  | nil => simp [splitL]
  | cons c s => simp only [splitL]; split <;> simp
theorem splitL_none : ∀ (l : Str), indexByte l 59 < 0 → splitL l = [l]
  | [], _ => rfl
  | c :: s, h => by
    unfold indexByte at h
    split at h
    · omega
    · rename_i hc
      have hge := indexByte_ge s 59
      have hs : indexByte s 59 < 0 := by
        split at h
        · rename_i he; have := beq_iff_eq.1 he; omega
        · omega
      simp only [splitL, splitL_none s hs]
      rw [if_neg (fun e => hc (beq_iff_eq.2 e))]
      rfl
theorem splitL_at : ∀ (l : Str) (i : Nat), indexByte l 59 = i → splitL l = l.take i :: splitL (l.drop (i + 1))
  | [], i, h => by simp [indexByte] at h
  | c :: s, i, h => by
    unfold indexByte at h
    split at h
    · rename_i hc
      obtain rfl : i = 0 := by omega
      simp [splitL, beq_iff_eq.1 hc]
    · rename_i hc
      have hge := indexByte_ge s 59
      split at h
      · omega
      · obtain ⟨j, rfl⟩ : ∃ j, i = j + 1 := ⟨i - 1, by
          rename_i he
          have : indexByte s 59 ≠ -1 := fun e => he (beq_iff_eq.2 e)
          omega⟩
        have ih := splitL_at s j (by omega)
        simp only [splitL, ih]
        rw [if_neg (fun e => hc (beq_iff_eq.2 e))]
        rfl
theorem index_lt (l : Str) (i : Nat) (h : indexByte l 59 = i) : i < l.length := by
  have := (indexByte_some h).1
  rcases Nat.lt_or_ge i l.length with h' | h'
  · exact h'
  · rw [List.getElem?_eq_none h'] at this; cases this

abbrev St := List Str × ByteArray
def cellLen (B : Nat) (w : World) : Nat := match w.cell? ⟨B, 0, none⟩ with | some (.string r) => r.size | _ => 0
theorem cellLen_of {B : Nat} {w : World} {r : ByteArray} (h : w.cell? ⟨B, 0, none⟩ = some (.string r)) : cellLen B w = r.size := by unfold cellLen; rw [h]
/-- What the iterator's variables hold. -/
structure SplitVars (B : Nat) (r : ByteArray) (W : World) : Prop where
  s : W.cell? ⟨B, 0, none⟩ = some (.string r)
  fz : W.frozen? ⟨B, 0, none⟩ = false
  sep : W.cell? ⟨B + 1, 0, none⟩ = some (.string ⟨#[59]⟩)
  save : W.cell? ⟨B + 2, 0, none⟩ = some (.int .i64 0)

set_option maxHeartbeats 4000000 in
set_option maxRecDepth 100000 in
theorem split_iter (n : Nat) (B : Nat) (s : ByteArray) (hs : s.size ≤ 4611686018427387904) (I : St → World → Prop) (hc : ∀ st W, I st W → SplitVars B st.2 W)
    (hset : ∀ st r W, I st W → I (st.1, r) (W.setCell ⟨B, 0, none⟩ (.string r))) :
    IterAt n Tryz.prog 150 #[.pointer (some ⟨B + 1, 0, none⟩), .pointer (some ⟨B, 0, none⟩), .pointer (some ⟨B + 2, 0, none⟩)] B
      (fun st x => ∃ rest, splitL (lst s) = st.1 ++ lst x :: rest) (fun st x => (st.1 ++ [lst x], st.2)) (fun st => st.1 = splitL (lst s)) I ([], s) := by
  intro l J Jx W hJI hJs hY h0
  refine callsIn_of_wp Tryz.func150 rfl trivial ?_ rfl
  simp only [Tryz.ntmps150, List.size_toArray, List.length_cons, List.length_nil, Nat.reduceAdd, Nat.reduceSub, Array.replicate_succ, Array.replicate_zero, List.push_toArray, List.append_toArray, List.nil_append, List.cons_append]
  obtain ⟨c1, c2, c3, c4⟩ := hc _ _ (hJI _ _ h0)
  gi_wp2
  gi_loopw [] (fun wr => ∃ (pre : List Str) (r : ByteArray), splitL (lst s) = pre ++ splitL (lst r) ∧ r.size ≤ s.size ∧ J (pre, r) wr) (fun wr => cellLen B wr)
  case atStart => exact ⟨[], s, rfl, Nat.le_refl _, h0⟩
  case round =>
    obtain ⟨pre, r, hsp, hrs, hJ⟩ := hrel
    obtain ⟨d1, d2, d3, d4⟩ := hc _ _ (hJI _ _ hJ)
    have hmu := cellLen_of d1
    have cI := Tryz.strings_Index_one r 59 wr
    have hge := indexByte_ge r.data.toList 59
    by_cases hneg : indexByte r.data.toList 59 < 0
    · obtain ⟨fn, tmps, assign, body, hy, hR⟩ := hY (pre, r) r wr hJ ⟨[], by rw [hsp, splitL_none _ hneg]⟩
      gi_wp2_with fail
      refine ⟨trivial, fun h => (by cases h), ?_⟩
      refine (callsIn_wide.2 cI).mono ?_
      rintro e w' ⟨rfl, rfl⟩
      gi_wp2
      refine ⟨fun h => (by cases h), ?_⟩
      refine hR.mono ?_
      rintro e W3 (⟨rfl, hJ3⟩ | ⟨rfl, hJ3⟩)
      · gi_wp2
        go_end0
        exact ⟨⟨_, rfl⟩, .inl ⟨_, by rw [hsp, splitL_none _ hneg], hJ3⟩⟩
      · gi_wp2
        go_end0
        exact ⟨⟨_, rfl⟩, .inr hJ3⟩
    · obtain ⟨i, hi⟩ : ∃ i : Nat, indexByte r.data.toList 59 = i := ⟨(indexByte r.data.toList 59).toNat, by omega⟩
      have hil : i < r.size := by rw [Lib.size_eq]; exact index_lt _ _ hi
      have hsa := splitL_at (lst r) i hi
      rw [hi] at cI
      clear hneg hge
      obtain ⟨fn, tmps, assign, body, hy, hR⟩ := hY (pre, r) (r.extract 0 i) wr hJ ⟨_, by rw [hsp, hsa, lst_extract]; rfl⟩
      gi_wp2_with fail
      refine ⟨trivial, fun h => (by cases h), ?_⟩
      refine (callsIn_wide.2 cI).mono ?_
      rintro e w' ⟨rfl, rfl⟩
      gi_wp2
      refine ⟨fun h => (by cases h), ?_⟩
      refine hR.mono ?_
      rintro e W3 (⟨rfl, hJ3⟩ | ⟨rfl, hJ3⟩)
      · obtain ⟨e1, e2, e3, e4⟩ := hc _ _ (hJI _ _ hJ3)
        dsimp only at e1
        gi_wp2
        obtain ⟨R, hR2⟩ : ∃ R : ByteArray, r.extract (i + 1) r.size = R := ⟨_, rfl⟩
        have hlR : lst R = (lst r).drop (i + 1) := by rw [← hR2, lst_extract, List.take_of_length_le (by rw [← Lib.size_eq]; exact Nat.le_refl _)]
        have hRs : R.size < r.size := by rw [← hR2, ByteArray.size_extract]; omega
        rw [hR2, hmu]
        have hset2 := hset _ R _ (hJI _ _ hJ3)
        refine ⟨⟨pre ++ [lst (r.extract 0 i)], R, ?_, by omega, hJs _ _ _ _ hJ3 hset2⟩, ?_⟩
        · rw [hsp, hsa, lst_extract, hlR]
          simp
        · rw [cellLen_of (hc _ _ hset2).s]
          exact hRs
      · gi_wp2
        refine bodyPost_ret (results_none rfl _ _ _) rfl ?_
        exact ⟨⟨_, rfl⟩, .inr hJ3⟩

end Go.Proofs.YteckefolakjafaaGreatDoor.S3

set_option linter.unusedVariables false
namespace Go.Proofs.YteckefolakjafaaGreatDoor.S3
open Go Go.Proofs Go.RowKit Go.Lib
attribute [local go_sem] Oper.semAt_some

/-- The codes of the parts, behind those that have come. -/
def listGo : List Str → List Str → List Str × Int
  | [], l => (l, 0)
  | p :: ps, l => if (partM p (64 - (l.length : Int))).2 ≠ 0 then ([], (partM p (64 - (l.length : Int))).2) else listGo ps (l ++ (partM p (64 - (l.length : Int))).1)
/-- What List hands back. -/
def listM (s : Str) : List Str × Int :=
  if s = [] then ([], 0) else if (listGo (splitL s) []).2 ≠ 0 then ([], (listGo (splitL s) []).2)
  else if checkM (listGo (splitL s) []).1 ≠ 0 then ([], checkM (listGo (splitL s) []).1) else ((listGo (splitL s) []).1, 0)
theorem listGo_app : ∀ (ps : List Str) (l : List Str) (qs : List Str), (listGo ps l).2 = 0 → listGo (ps ++ qs) l = listGo qs (listGo ps l).1
  | [], l, qs, _ => rfl
  | p :: ps, l, qs, h => by
    simp only [listGo, List.cons_append] at h ⊢
    by_cases hc : (partM p (64 - (l.length : Int))).2 = 0
    · rw [if_neg (by simpa using hc)] at h ⊢
      rw [if_neg (by simpa using hc)]
      exact listGo_app ps _ qs h
    · rw [if_pos hc] at h
      exact absurd h hc
theorem partM_ok (p : Str) (m : Int) (h : (partM p m).2 = 0) : 1 ≤ (partM p m).1.length ∧ ((partM p m).1.length : Int) ≤ m := by
  unfold partM at h ⊢
  split at h
  · simp at h
  · rename_i h1
    rw [if_neg h1]
    split at h
    · simp at h
    · rename_i h2
      rw [if_neg h2]
      split at h
      · simp at h
      · rename_i h3
        rw [if_neg h3]
        split at h
        · simp at h
        · rename_i h4
          rw [if_neg h4]
          simp only
          rw [expandL_len _ _ (by omega)]
          omega
theorem splitL_mem : ∀ (l : Str) (p : Str), p ∈ splitL l → p.length ≤ l.length
  | [], p, h => by simp [splitL] at h; simp [h]
  | c :: s, p, h => by
    have ih := splitL_mem s
    simp only [splitL] at h
    split at h
    · rcases List.mem_cons.1 h with rfl | h
      · simp
      · have := ih p h; simp; omega
    · have hne := splitL_ne s
      obtain ⟨a, t, hat⟩ : ∃ a t, splitL s = a :: t := by cases hs : splitL s with | nil => exact absurd hs hne | cons a t => exact ⟨a, t, rfl⟩
      rw [hat] at h
      simp only [List.headD_cons, List.tail_cons] at h
      rcases List.mem_cons.1 h with rfl | h
      · have := ih a (by rw [hat]; exact .head _); simp; omega
      · have := ih p (by rw [hat]; exact .tail _ h); simp; omega

set_option maxHeartbeats 1000000 in
theorem splitSeq_any (s : ByteArray) (w : World) : Calls Tryz.prog 87 #[.string s, .string ⟨#[59]⟩] w fun e w' =>
    e = .returned (.func (.func 150) #[] #[.pointer (some ⟨w.heap.size + 1, 0, none⟩), .pointer (some ⟨w.heap.size, 0, none⟩), .pointer (some ⟨w.heap.size + 2, 0, none⟩)]) ∧
    w' = ((w.alloc (.cells #[.string s] 9)).alloc (.cells #[.string ⟨#[59]⟩] 9)).alloc (.cells #[.int .i64 0] 3) := by
  have c56 : Calls Tryz.prog 110 #[.string s, .string ⟨#[59]⟩, .int .i64 0] w fun e w' =>
      e = .returned (.func (.func 150) #[] #[.pointer (some ⟨w.heap.size + 1, 0, none⟩), .pointer (some ⟨w.heap.size, 0, none⟩), .pointer (some ⟨w.heap.size + 2, 0, none⟩)]) ∧
      w' = ((w.alloc (.cells #[.string s] 9)).alloc (.cells #[.string ⟨#[59]⟩] 9)).alloc (.cells #[.int .i64 0] 3) := by
    go_enter Tryz.func110, Tryz.ntmps110
    go_wp2
    go_ret
    exact ⟨rfl, rfl⟩
  go_enter Tryz.func87, Tryz.ntmps87
  go_wp2_with fail
  refine c56.mono ?_
  rintro e w' ⟨rfl, rfl⟩
  go_wp2
  go_ret
  exact ⟨rfl, rfl⟩

/-- Between two rounds. -/
structure LInv (N : Nat) (w : World) (st : St) (W : World) : Prop where
  below : Below N w W
  size : N + 6 ≤ W.heap.size
  r1 : Boxed W N 43 (.slice none 0 0)
  r2 : Boxed W (N + 1) 26 (.int .i64 0)
  v1 : Boxed W (N + 3) 9 (.string st.2)
  v2 : Boxed W (N + 4) 9 (.string ⟨#[59]⟩)
  v3 : Boxed W (N + 5) 3 (.int .i64 0)
  acc : ∃ v, Boxed W (N + 2) 43 v ∧ StrRow W (N + 6) v (listGo st.1 []).1
  ok : (listGo st.1 []).2 = 0
  len : (listGo st.1 []).1.length ≤ 64
/-- A round has returned. -/
structure LErr (N : Nat) (w : World) (s : Str) (W : World) : Prop where
  below : Below N w W
  out : ∃ e : Int, (listGo (splitL s) []).2 = e ∧ e ≠ 0 ∧ Boxed W N 43 (.slice none 0 0) ∧ Boxed W (N + 1) 26 (.int .i64 e)
theorem LInv.kept {N : Nat} {w : World} {st : St} {W W' : World} {row : Option Nat} (h : LInv N w st W) (hN : N ≤ w.heap.size) (hg : W.grownBy W' row) (hr : ∀ r, row = some r → N + 6 ≤ r) (hrow : ∀ v, Boxed W (N + 2) 43 v → StrRow W (N + 6) v (listGo st.1 []).1 → v.ownBlock = none ∨ v.ownBlock ≠ row) : LInv N w st W' := by
  have hne : ∀ B, B < N + 6 → some B ≠ row := fun B hB e => by have := hr B e.symm; omega
  obtain ⟨v, hv, hw⟩ := h.acc
  have hs := h.below.size
  exact ⟨h.below.grown hg (by omega) (fun k e => by have := hr k e; omega), Nat.le_trans h.size hg.size, h.r1.kept hg (hne _ (by omega)), h.r2.kept hg (hne _ (by omega)), h.v1.kept hg (hne _ (by omega)), h.v2.kept hg (hne _ (by omega)), h.v3.kept hg (hne _ (by omega)),
    ⟨v, hv.kept hg (hne _ (by omega)), World.ownsRow.kept hw hg (hrow v hv hw)⟩, h.ok, h.len⟩
theorem LInv.own {N B : Nat} {w : World} (hN : N ≤ w.heap.size) (hB : N + 6 ≤ B) : OwnFrom B (LInv N w) := by
  intro st W W' row h hg hr
  refine h.kept hN hg (fun r e => by have := (hr r e).1; omega) (fun v hv hw => ?_)
  rcases hw.2 with ⟨rfl, _⟩ | ⟨g, cap, cur, rfl, _, hgb, _⟩
  · exact .inl rfl
  · refine .inr fun e' => ?_
    obtain ⟨_, o, ho, hc⟩ := hr g (by simpa [Value.ownBlock] using e'.symm)
    rw [hgb] at ho; cases ho; cases hc
theorem LErr.own {N B : Nat} {w : World} {s : Str} (hN : N ≤ w.heap.size) (hB : N + 6 ≤ B) : OwnFrom B (fun (_ : Unit) W => LErr N w s W) := by
  rintro _ W W' row ⟨hb, e, he, h0, h1, h2⟩ hg hr
  have hne : ∀ B, B < N + 6 → some B ≠ row := fun B' hB' e => by have := (hr B' e.symm).1; omega
  have hs := hb.size
  exact ⟨hb.grown hg (by omega) (fun k e => by have := (hr k e).1; omega), e, he, h0, h1.kept hg (hne _ (by omega)), h2.kept hg (hne _ (by omega))⟩
theorem LInv.turn {N : Nat} {w : World} {st : St} {W : World} (h : LInv N w st W) (hN : N ≤ w.heap.size) (r : ByteArray) : LInv N w (st.1, r) (W.setCell ⟨N + 3, 0, none⟩ (.string r)) := by
  have hg := grownBy_setCell' W (N + 3) (.string r)
  have hne : ∀ B, B ≠ N + 3 → some B ≠ some (N + 3) := fun B hB e => hB (by injection e)
  obtain ⟨v, hv, hw⟩ := h.acc
  have hs := h.below.size
  refine ⟨h.below.grown hg (by omega) (fun k e => by injection e; omega), Nat.le_trans h.size hg.size, h.r1.kept hg (hne _ (by omega)), h.r2.kept hg (hne _ (by omega)), h.v1.set _, h.v2.kept hg (hne _ (by omega)), h.v3.kept hg (hne _ (by omega)),
    ⟨v, hv.kept hg (hne _ (by omega)), World.ownsRow.kept hw hg ?_⟩, h.ok, h.len⟩
  refine .inr fun e => ?_
  have := World.ownsRow.lt hw _ e
  omega
theorem LInv.vars {N : Nat} {w : World} {st : St} {W : World} (h : LInv N w st W) : SplitVars (N + 3) st.2 W := ⟨h.v1.cell, h.v1.frozen, h.v2.cell, h.v3.cell⟩
theorem results_cc {fn : Func} {p u : Tmp} {A B : TypeId} (h : fn.results = #[.cell p A, .cell u B]) (tmps : Array Value) (P : Program) (w : World) (a b : Addr) (va vb : Value)
    (ha : tmps.getD p undef = .pointer (some a)) (hb : tmps.getD u undef = .pointer (some b))
    (hla : (loadVar A a).run P w = .ok va w) (hlb : (loadVar B b).run P w = .ok vb w) : (results fn tmps).run P w = .ok (.tuple #[va, vb]) w := by
  rw [Array.getD_eq_getD_getElem?] at ha hb
  simp only [results, h]
  simp [Result.andThen, ha, hb, hla, hlb, asAddr]
theorem loadStrs {w : World} {k : Nat} {x : Value} (h0 : w.cell? ⟨k, 0, none⟩ = some x) : (loadVar 43 ⟨k, 0, none⟩).run Tryz.prog w = .ok x w := by
  simp [loadVar, go_sem, h0]
theorem loadErr {w : World} {k : Nat} {x : Value} (h0 : w.cell? ⟨k, 0, none⟩ = some x) : (loadVar 26 ⟨k, 0, none⟩).run Tryz.prog w = .ok x w := by
  simp [loadVar, go_sem, h0]

end Go.Proofs.YteckefolakjafaaGreatDoor.S3

set_option linter.unusedVariables false
namespace Go.Proofs.YteckefolakjafaaGreatDoor.S3
open Go Go.Proofs Go.RowKit Go.Lib
attribute [local go_sem] Oper.semAt_some

/-- What List hands back. -/
def ListOut (r : List Str × Int) (w : World) (e : Ending) (w' : World) : Prop := (∃ v, e = .returned (.tuple #[v, .int .i64 r.2]) ∧ StrRow w' w.heap.size v r.1) ∧ Below w.heap.size w w'

theorem Boxed.under {W W2 : World} {B : Nat} {t : TypeId} {v : Value} (h : Boxed W B t v) (hb : Below W.heap.size W W2) : Boxed W2 B t v := (hb.block _ h.lt).trans h
theorem keeps_below {W W2 : World} (hb : Below W.heap.size W W2) : KeepsOthers W W2 := ⟨hb.size, fun k o hk _ => (hb.block k (Array.getElem?_eq_some_iff.1 hk).1).trans hk⟩
/-- A round has gone on. -/
theorem LInv.step {N : Nat} {w : World} {pre : List Str} {r : ByteArray} {W W2 w3 : World} {v v' : Value} {L L' : List Str} {x : Str} (h : LInv N w (pre, r) W) (hN : N ≤ w.heap.size) (hb : Below W.heap.size W W2) (hv : Boxed W (N + 2) 43 v)
    (hrow2 : StrRow W2 (N + 6) v L) (hg : W2.grownBy w3 v.ownBlock) (hown : StrRow w3 (N + 6) v' L') (hx : listGo (pre ++ [x]) [] = (L', 0)) (hl : L'.length ≤ 64) (B0 : Nat) :
    LInv N w (pre ++ [x], r) (w3.setCell ⟨N + 2, 0, none⟩ v') ∧ KeepsFrom B0 W (w3.setCell ⟨N + 2, 0, none⟩ v') := by
  have hs := h.below.size
  have hlt := hrow2.lt
  have hlt' := hown.lt
  have hne : ∀ B, B < N + 6 → some B ≠ v.ownBlock := fun B hB e => by have := hlt B e.symm; omega
  have hg2 := grownBy_setCell' w3 (N + 2) v'
  have hne2 : ∀ B, B ≠ N + 2 → some B ≠ some (N + 2) := fun B hB e => hB (by injection e)
  have up : ∀ {B : Nat} {t : TypeId} {u : Value}, Boxed W B t u → B < N + 6 → B ≠ N + 2 → Boxed (w3.setCell ⟨N + 2, 0, none⟩ v') B t u := fun hu h6 h2 => ((Boxed.under hu hb).kept hg (hne _ h6)).kept hg2 (hne2 _ h2)
  have hv3 : Boxed w3 (N + 2) 43 v := (Boxed.under hv hb).kept hg (hne _ (by omega))
  have hsz := h.size
  have hb3 : Below N w (w3.setCell ⟨N + 2, 0, none⟩ v') := ((h.below.trans (hb.mono (by omega))).grown hg (by have := hb.size; omega) (fun k hk => by have := hlt k hk; omega)).grown hg2 (by have := hb.size; have := hg.size; omega) (fun k e => by injection e; omega)
  refine ⟨⟨hb3, ?_, up h.r1 (by omega) (by omega), up h.r2 (by omega) (by omega), up h.v1 (by omega) (by omega), up h.v2 (by omega) (by omega), up h.v3 (by omega) (by omega), ⟨v', hv3.set v', ?_⟩, by rw [hx], by rw [hx]; exact hl⟩, ?_⟩
  · have := hb.size; have := hg.size; have := hg2.size; omega
  · rw [hx]
    exact World.ownsRow.kept hown hg2 (.inr fun e => by have := hlt' _ e; omega)
  · refine (((keeps_below hb).trans (KeepsOthers.of_grownBy hg fun j o ej hj => ?_)).trans (KeepsOthers.setCell _ _ _)).from _
    obtain ⟨c, hc⟩ := row_kind9 hrow2 j ej
    rw [hc] at hj
    cases hj
    rfl

theorem box_at {W : World} {n : Nat} (h : W.heap.size = n) (t : TypeId) (v : Value) : Boxed (W.alloc (.cells #[v] t)) n t v := by subst h; exact Boxed.new W t v
/-- Both results stored, the mark taken. -/
theorem list_end {N D : Nat} {W : World} {u0 u1 v e : Value} (h1 : Boxed W N 43 u0) (h2 : Boxed W (N + 1) 26 u1) (hD : N + 6 ≤ D) (hK : W.heap[D]? = some (.deferred (some []))) :
    ((W.setCell ⟨N, 0, none⟩ v).setCell ⟨N + 1, 0, none⟩ e).heap[D]? = some (.deferred (some [])) ∧
    Boxed (((W.setCell ⟨N, 0, none⟩ v).setCell ⟨N + 1, 0, none⟩ e).putObj D (.deferred none)) N 43 v ∧ Boxed (((W.setCell ⟨N, 0, none⟩ v).setCell ⟨N + 1, 0, none⟩ e).putObj D (.deferred none)) (N + 1) 26 e ∧
    Below N W (((W.setCell ⟨N, 0, none⟩ v).setCell ⟨N + 1, 0, none⟩ e).putObj D (.deferred none)) ∧
    (∀ u n xs, W.ownsRow (N + 6) 9 1 u n xs → (((W.setCell ⟨N, 0, none⟩ v).setCell ⟨N + 1, 0, none⟩ e).putObj D (.deferred none)).ownsRow (N + 6) 9 1 u n xs) := by
  have hg1 := grownBy_setCell' W N v
  have hg2 := grownBy_setCell' (W.setCell ⟨N, 0, none⟩ v) (N + 1) e
  have hg3 := grownBy_putObj' ((W.setCell ⟨N, 0, none⟩ v).setCell ⟨N + 1, 0, none⟩ e) D (.deferred none)
  have hne : ∀ a b : Nat, a ≠ b → some a ≠ some b := fun a b h e => h (by injection e)
  have hlt := h2.lt
  have k0 : ((W.setCell ⟨N, 0, none⟩ v).setCell ⟨N + 1, 0, none⟩ e).heap[D]? = some (.deferred (some [])) := (KeepsOthers.setCell _ _ _).same D _ ((KeepsOthers.setCell W _ _).same D _ hK rfl) rfl
  refine ⟨k0, ((h1.set v).kept hg2 (hne _ _ (by omega))).kept hg3 (hne _ _ (by omega)), ((h2.kept hg1 (hne _ _ (by omega))).set e).kept hg3 (hne _ _ (by omega)), ?_, ?_⟩
  · exact (((Below.refl N W).grown hg1 (by omega) (fun k e => by injection e; omega)).grown hg2 (by have := hg1.size; omega) (fun k e => by injection e; omega)).grown hg3 (by have := hg1.size; have := hg2.size; omega) (fun k e => by injection e; omega)
  · intro u n xs h
    have := h.lt
    exact ownsRow_putObj (World.ownsRow.kept (World.ownsRow.kept h hg1 (.inr fun e => by have := this _ e; omega)) hg2 (.inr fun e => by have := this _ e; omega)) _ k0 rfl

set_option maxHeartbeats 8000000 in
set_option maxRecDepth 100000 in
theorem list_any (s : ByteArray) (hs : s.size < 4294967281) (w : World) (hE : Env w) : Calls Tryz.prog 85 #[.string s] w (ListOut (listM (lst s)) w) := by
  refine (callsIn_wide (n := 9)).1 ?_
  refine callsIn_of_wp_marks Tryz.func85 rfl trivial ?_ rfl
  simp only [Tryz.ntmps85, List.size_toArray, List.length_cons, List.length_nil, Nat.reduceAdd, Nat.reduceSub, Array.replicate_succ, Array.replicate_zero, List.push_toArray, List.append_toArray, List.nil_append, List.cons_append]
  by_cases h0 : 0 < s.size
  · obtain ⟨x1, x2, x3, x4⟩ := str_no h0
    have hne := lst_ne h0
    gi_wp2_with fail
    refine ⟨trivial, ?_⟩
    refine (callsIn_wide.2 (splitSeq_any s _)).mono ?_
    rintro e w' ⟨rfl, rfl⟩
    gi_wp2
    obtain ⟨W0, hW0⟩ : ∃ W0, ((((((w.alloc (Obj.cells #[Value.slice none 0 0] 43)).alloc (Obj.cells #[Value.int IntKind.i64 0] 26)).alloc (Obj.cells #[Value.slice none 0 0] 43)).alloc (Obj.cells #[Value.string s] 9)).alloc (Obj.cells #[Value.string { data := #[59] }] 9)).alloc (Obj.cells #[Value.int IntKind.i64 0] 3)) = W0 := ⟨_, rfl⟩
    rw [hW0]
    have hI0 : LInv w.heap.size w ([], s) W0 := by
      rw [← hW0]
      exact ⟨((((((Below.refl _ w).alloc (Nat.le_refl _) _).alloc (by simp) _).alloc (by simp; omega) _).alloc (by simp; omega) _).alloc (by simp; omega) _).alloc (by simp; omega) _, by simp,
        (((((box_at rfl 43 _).alloc _).alloc _).alloc _).alloc _).alloc _, ((((box_at (by simp) 26 _).alloc _).alloc _).alloc _).alloc _, ((box_at (by simp) 9 _).alloc _).alloc _, (box_at (by simp) 9 _).alloc _, box_at (by simp) 3 _,
        ⟨.slice none 0 0, (((box_at (by simp) 43 _).alloc _).alloc _).alloc _, World.ownsRow_nil _ _ _ _⟩, rfl, by simp [listGo]⟩
    have hz0 : w.heap.size + 6 ≤ W0.heap.size := hI0.size
    have hEv := hE.size
    clear hW0
    refine range_own (by omega) (gf := 150) (lb := #[.pointer (some ⟨w.heap.size + 3 + 1, 0, none⟩), .pointer (some ⟨w.heap.size + 3, 0, none⟩), .pointer (some ⟨w.heap.size + 3 + 2, 0, none⟩)]) rfl (enters_of Tryz.func150 (by kernel_rfl) rfl) (w.heap.size + 3) (by omega)
      (fun st x => ∃ rest, splitL (lst s) = st.1 ++ lst x :: rest) (fun st x => (st.1 ++ [lst x], st.2)) (fun st => st.1 = splitL (lst s)) (LInv w.heap.size w) (LErr w.heap.size w (lst s)) ([], s)
      (split_iter _ (w.heap.size + 3) s (by omega) _ (fun st W h => h.vars) (fun st r W h => h.turn (Nat.le_refl _) r)) rfl (LInv.own (Nat.le_refl _) hz0) (LErr.own (Nat.le_refl _) hz0) hI0
      (fun x => { tmps := #[.string s, undef, .pointer (some ⟨w.heap.size, 0, none⟩), .pointer (some ⟨w.heap.size + 1, 0, none⟩), .pointer (some ⟨w.heap.size + 1 + 1, 0, none⟩), .string x, undef, undef, undef, .string s, .bool false, .string s,
        .func (.func 150) #[] #[.pointer (some ⟨w.heap.size + 1 + 1 + 1 + 1, 0, none⟩), .pointer (some ⟨w.heap.size + 1 + 1 + 1, 0, none⟩), .pointer (some ⟨w.heap.size + 1 + 1 + 1 + 2, 0, none⟩)],
        .string x, undef, undef, undef, undef, undef, undef, undef, undef, undef, undef, undef, undef, undef, undef, undef, undef, undef, undef, undef, undef], defers := [] }) ?assign ?body ?done ?stop
    case assign =>
      intro l x W K hK
      gi_wp2
      exact hK
    case body =>
      rintro l ⟨pre, r⟩ x W hI ⟨rest, hrest⟩
      obtain ⟨v, hv, hrow⟩ := hI.acc
      have hok := hI.ok
      have h64 := hI.len
      dsimp only at hrow hok h64 hrest ⊢
      obtain ⟨A, c, hvA, hc1, hc2, hin⟩ := hrow.strsIn
      subst hvA
      have hxs : x.size < 4294967281 := by
        have := splitL_mem (lst s) (lst x) (by rw [hrest]; simp)
        rw [show (lst x).length = x.size from (Lib.size_eq x).symm, show (lst s).length = s.size from (Lib.size_eq s).symm] at this
        omega
      obtain ⟨L, hL⟩ : ∃ L, (listGo pre []).1 = L := ⟨_, rfl⟩
      have hgo : ∀ qs, listGo (pre ++ qs) [] = listGo qs L := fun qs => by rw [listGo_app _ _ _ hok, hL]
      rw [hL] at hrow hc1 hin hv h64
      have hB := hI.below
      have hEW : Env W := env_grown hE hI.below hEv
      have cP := readPart_any x (64 - (L.length : Int)) hxs (by omega) W hEW
      obtain ⟨⟨l2, e2⟩, hR⟩ : ∃ R, partM (lst x) (64 - (L.length : Int)) = R := ⟨_, rfl⟩
      rw [hR] at cP
      have hcell := hv.cell
      have HRow := hid hrow
      have HIn := hid hin
      have HGo := hid hgo
      have HOk := hid hok
      clear hrow hin hgo hL hok hEW
      by_cases h2 : e2 = 0
      · subst h2
        have hpo := partM_ok (lst x) (64 - (L.length : Int)) (by rw [hR])
        rw [hR] at hpo
        obtain ⟨hp1, hp2⟩ := hpo
        dsimp only at hp1 hp2
        gi_wp2_with fail
        refine ⟨trivial, ?_⟩
        refine (CallsIn.inRound l (callsIn_wide.2 cP)).mono ?_
        rintro e W2 ⟨⟨v2, rfl, hrow2⟩, hb2⟩
        obtain ⟨m, hm⟩ : ∃ m, l2.length = m + 1 := ⟨l2.length - 1, by omega⟩
        have hq := hrow2
        unfold StrRow at hq
        dsimp only at hq
        rw [hm] at hq
        obtain ⟨g, cap, rfl⟩ := ownsRow_succ hq
        have hv2 := Boxed.under hv hb2
        have hcell2 := hv2.cell
        have hrowW2 : StrRow W2 (w.heap.size + 6) (.slice A L.length c) L := row_under HRow.out hb2
        have hcs : ∀ j u, (strVals l2)[j]? = some u → W2.cell? ((⟨g, 0, none⟩ : Addr).add j) = some u := World.ownsRow.cells hq rfl
        have hone : ∀ u ∈ strVals l2, u.oneCell' = true := by
          intro u hu
          obtain ⟨a, _, rfl⟩ := List.mem_map.1 hu
          rfl
        have hsz6 : w.heap.size + 6 ≤ W2.heap.size := by have := hI.size; have := hb2.size; omega
        have hnl : (strVals l2).length = (m + 1) * 1 := by rw [strVals_len, hm]; omega
        have hmx : L.length + (m + 1) ≤ maxLen := by unfold maxLen; omega
        have hby : (L.length + (m + 1)) * 16 ≤ 140737488355328 := by omega
        obtain ⟨i9, hi9, hz9, hsi9, hby9⟩ := info_parts infoStr
        have HRow2 := hid hrowW2
        have HCs := hid hcs
        have HOne := hid hone
        have HQ := hid hq
        have HNl := hid hnl
        have HMx := hid hmx
        have HBy := hid hby
        have H6 := hid hsz6
        clear hrow2 hq hrowW2 hcs hone hnl hmx hby hsz6
        gi_wp2_with (gi_at_builtin; refine wpListIn_append_own _ rfl _ _ 43 rfl (w.heap.size + 6) 9 i9 (.string ⟨#[]⟩) 1 16 Tryz.underlying43 hi9 hz9 hsi9 hby9 rfl (by decide) _ L.length (strVals L) rfl HRow2.out ⟨g, 0, none⟩ (m + 1) cap (strVals l2) rfl HNl.out HCs.out HOne.out HMx.out HBy.out H6.out ?_)
        intro v' w3 hown' hgrow _
        obtain ⟨g', cap', rfl⟩ := ownsRow_succ (k := L.length + m) hown'
        have hv3 : Boxed w3 (w.heap.size + 2) 43 (.slice A L.length c) := hv2.kept hgrow (fun e => by have := HRow2.out.lt _ e.symm; omega)
        have hcell3 := hv3.cell
        have hfz3 := hv3.frozen
        have hown2 : StrRow w3 (w.heap.size + 6) (.slice (some ⟨g', 0, none⟩) (L.length + m + 1) cap') (L ++ l2) := by
          unfold StrRow
          rw [strVals_app, List.length_append, hm]
          exact hown'
        gi_wp2
        obtain ⟨i1, i2⟩ := LInv.step hI (Nat.le_refl _) hb2 hv HRow2.out hgrow hown2 (x := lst x) (by rw [HGo.out]; simp [listGo, hR]) (by simp; omega) W0.heap.size
        exact ⟨i2, i1⟩
      · have hgo2 : listGo (splitL (lst s)) [] = ([], e2) := by rw [hrest, HGo.out]; simp [listGo, hR, h2]
        have HGo2 := hid hgo2
        clear hgo2
        gi_wp2_with fail
        refine ⟨trivial, ?_⟩
        refine (CallsIn.inRound l (callsIn_wide.2 cP)).mono ?_
        rintro e W2 ⟨⟨v2, rfl, hrow2⟩, hb2⟩
        clear hrow2
        have k1 := Boxed.under hI.r1 hb2
        have k2 := Boxed.under hI.r2 hb2
        have f1 := k1.frozen
        have f2 := k2.frozen
        have g1 := k1.cell
        have g2 := k2.cell
        gi_wp2
        have q1 := grownBy_setCell' W2 w.heap.size (.slice none 0 0)
        have q2 := grownBy_setCell' (W2.setCell ⟨w.heap.size, 0, none⟩ (.slice none 0 0)) (w.heap.size + 1) (.int .i64 e2)
        have hne' : ∀ a b : Nat, a ≠ b → some a ≠ some b := fun a b h e => h (by injection e)
        refine ⟨(((keeps_below hb2).trans (KeepsOthers.setCell _ _ _)).trans (KeepsOthers.setCell _ _ _)).from _, ⟨?_, e2, by rw [HGo2.out], h2, (k1.set _).kept q2 (hne' _ _ (by omega)), (k2.kept q1 (hne' _ _ (by omega))).set _⟩⟩
        have hz2 := hb2.size
        have hzW := hI.size
        exact ((hB.trans (hb2.mono (by omega))).grown q1 (by omega) (fun k e => by injection e; omega)).grown q2 (by have := q1.size; omega) (fun k e => by injection e; omega)
    case done =>
      rintro D ⟨pre, r⟩ W hD hfin hI hK
      obtain ⟨v, hv, hrow⟩ := hI.acc
      have hok := hI.ok
      have h64 := hI.len
      dsimp only at hfin hrow hok h64
      rw [hfin] at hrow hok h64
      obtain ⟨A, c, hvA, hc1, hc2, hin⟩ := hrow.strsIn
      subst hvA
      have hM : listM (lst s) = if checkM (listGo (splitL (lst s)) []).1 ≠ 0 then ([], checkM (listGo (splitL (lst s)) []).1) else ((listGo (splitL (lst s)) []).1, 0) := by
        unfold listM
        rw [if_neg hne, if_neg (by rw [hok]; simp)]
      obtain ⟨L, hL⟩ : ∃ L, (listGo (splitL (lst s)) []).1 = L := ⟨_, rfl⟩
      rw [hL] at hM hrow hc1 hin hv h64
      have cC := check_any A L c _ W hin hc1 hc2
      have hcell := hv.cell
      have f1 := hI.r1.frozen
      have f2 := hI.r2.frozen
      have g1 := hI.r1.cell
      have g2 := hI.r2.cell
      have hBelow := hI.below
      by_cases hk : checkM L = 0
      · rw [if_neg (by simpa using hk)] at hM
        rw [hk] at cC
        gi_wp2_with fail
        refine ⟨trivial, ?_⟩
        refine (callsIn_wide.2 cC).mono ?_
        rintro e w' ⟨rfl, rfl⟩
        gi_wp2
        obtain ⟨k0, k1, k2, k3, k4⟩ := list_end (v := .slice A L.length c) (e := .int .i64 0) hI.r1 hI.r2 (D := D) (by omega) hK
        refine ⟨by simp, .inl ⟨_, _, rfl, run_takeDeferred k0, ?_⟩⟩
        refine ⟨_, results_cc rfl _ _ _ _ _ _ _ rfl rfl (loadStrs k1.cell) (loadErr k2.cell), ?_⟩
        rw [hM]
        exact ⟨⟨_, rfl, StrRow.mono (k4 _ _ _ hrow) (by omega)⟩, hBelow.trans k3⟩
      · rw [if_pos hk] at hM
        obtain ⟨e0, he0⟩ : ∃ e0, checkM L = e0 := ⟨_, rfl⟩
        rw [he0] at cC hM hk
        gi_wp2_with fail
        refine ⟨trivial, ?_⟩
        refine (callsIn_wide.2 cC).mono ?_
        rintro e w' ⟨rfl, rfl⟩
        gi_wp2
        obtain ⟨k0, k1, k2, k3, k4⟩ := list_end (v := .slice none 0 0) (e := .int .i64 e0) hI.r1 hI.r2 (D := D) (by omega) hK
        refine ⟨by simp, .inl ⟨_, _, rfl, run_takeDeferred k0, ?_⟩⟩
        refine ⟨_, results_cc rfl _ _ _ _ _ _ _ rfl rfl (loadStrs k1.cell) (loadErr k2.cell), ?_⟩
        rw [hM]
        exact ⟨⟨_, rfl, World.ownsRow_nil _ _ _ _⟩, hBelow.trans k3⟩
    case stop =>
      rintro D W hD ⟨hb, e, he, hne0, h1, h2⟩ hK
      have hM : listM (lst s) = ([], e) := by
        unfold listM
        rw [if_neg hne, if_pos (by rw [he]; exact hne0), he]
      have hg3 := grownBy_putObj' W D (.deferred none)
      have hne' : ∀ a b : Nat, a ≠ b → some a ≠ some b := fun a b h e => h (by injection e)
      gi_wp2
      refine ⟨by simp, .inl ⟨_, _, rfl, run_takeDeferred hK, ?_⟩⟩
      refine ⟨_, results_cc rfl _ _ _ _ _ _ _ rfl rfl (loadStrs (h1.kept hg3 (hne' _ _ (by omega))).cell) (loadErr (h2.kept hg3 (hne' _ _ (by omega))).cell), ?_⟩
      rw [hM]
      exact ⟨⟨_, rfl, World.ownsRow_nil _ _ _ _⟩, hb.grown hg3 hb.size (fun k e => by injection e; omega)⟩
  · obtain ⟨x1, x2, x3, x4⟩ := str_yes h0
    have hnil := lst_nil h0
    have hM : listM (lst s) = ([], 0) := by rw [hnil]; rfl
    gi_wp2
    refine ⟨_, results_cc rfl _ _ _ _ _ _ _ rfl rfl (loadStrs (x := .slice none 0 0) ?_) (loadErr (x := .int .i64 0) ?_), ?_⟩
    · simp
    · simp
    · rw [hM]
      exact ⟨⟨_, rfl, World.ownsRow_nil _ _ _ _⟩, ((Below.refl _ w).alloc (Nat.le_refl _) _).alloc (by simp) _⟩

end Go.Proofs.YteckefolakjafaaGreatDoor.S3

set_option linter.unusedVariables false
namespace Go.Proofs.YteckefolakjafaaGreatDoor.S3
open Go Go.Proofs Go.RowKit Go.Lib

theorem p80 : ∀ (q : Str) (c : UInt8), ([80] : Str) = q ++ [c] → dg c = false
  | [], c, h => by injection h with h _; subst h; decide
  | [_], c, h => by simp at h
  | _ :: _ :: _, c, h => by simp at h
theorem pw_pre (n w : Nat) : preS (80 :: wrS n w) = [80] := pre_app [80] (wrS n w) (wr_dgs n w) p80
theorem pw_last (n w : Nat) : lastS (80 :: wrS n w) = wrS n w := last_app [80] (wrS n w) (wr_dgs n w) p80
theorem pw_num (n w : Nat) : numL (80 :: wrS n w) = n := by unfold numL; rw [pw_last, wr_num]
theorem pw_has (n w : Nat) : hasL (80 :: wrS n w) = true := by
  unfold hasL
  rw [pw_last]
  cases h : wrS n w with
  | nil => exact absurd h (wr_ne n w)
  | cons c r => rfl
theorem dec_mono (n m : Nat) (h : n ≤ m) : (decDigits n).length ≤ (decDigits m).length :=
  dec_len n _ (Nat.lt_of_le_of_lt h (by have := numN_lt (decDigits m) (dec_dgs m); rwa [dec_num] at this)) (dec_pos m)
theorem wr_wider (n m w : Nat) (h : n ≤ m) : wrS m (max w (decDigits n).length) = wrS m w := by
  have := dec_mono n m h
  unfold wrS
  rw [show max w (decDigits n).length - (decDigits m).length = w - (decDigits m).length by omega]
theorem pw_range (n d w : Nat) : rangeN (80 :: wrS n w) (80 :: wrS (n + d) w) = d + 1 := by
  unfold rangeN
  rw [if_pos ⟨pw_has _ _, pw_has _ _, by rw [pw_num, pw_num]; omega, by rw [pw_pre, pw_num, pw_last, wr_len, wr_wider _ _ _ (by omega)]; rfl⟩, pw_num, pw_num]
  omega
theorem pw_nth (n w j : Nat) : nthS (80 :: wrS n w) j = 80 :: wrS (n + j) w := by
  unfold nthS
  rw [pw_pre, pw_num, pw_last, wr_len, wr_wider _ _ _ (by omega)]
  rfl
theorem pw_expand (n w d : Nat) : expandL (80 :: wrS n w) (d + 1) = (List.range (d + 1)).map (fun j => 80 :: wrS (n + j) w) := by
  unfold expandL
  rw [List.range_succ_eq_map, show d + 1 - 1 = d by omega, List.map_cons, List.map_map, Nat.add_zero]
  congr 1
  exact List.map_congr_left fun j _ => pw_nth n w (j + 1)
theorem dg_ok {c : UInt8} (h : dg c = true) : okC c = true := by unfold okC; rw [h]; simp
theorem pw_valid (n w : Nat) (hw : w ≤ 15) (hn : (decDigits n).length ≤ 15) : validC (80 :: wrS n w) = true := by
  show (decide ((80 :: wrS n w).length ≤ 16) && !sgn 80 && List.all (80 :: wrS n w) okC) = true
  rw [Bool.and_eq_true, Bool.and_eq_true]
  refine ⟨⟨decide_eq_true ?_, by decide⟩, List.all_eq_true.2 fun c hc => ?_⟩
  · rw [List.length_cons, wr_len]; omega
  · rcases List.mem_cons.1 hc with rfl | hc
    · decide
    · exact dg_ok (wr_dgs n w c hc)
theorem checkGo_ok : ∀ (r seen : List Str), (∀ c ∈ r, validC c = true) → (∀ c ∈ r, c ∉ seen) → r.Nodup → checkGo seen r = 0
  | [], _, _, _, _ => rfl
  | c :: r, seen, hv, hs, hn => by
    obtain ⟨h1, h2⟩ := List.nodup_cons.1 hn
    unfold checkGo
    rw [if_neg (by rw [hv c (.head _)]; simp), if_neg (hs c (.head _))]
    refine checkGo_ok r _ (fun x hx => hv x (.tail _ hx)) (fun x hx hm => ?_) h2
    rcases List.mem_append.1 hm with hm | hm
    · exact hs x (.tail _ hx) hm
    · obtain rfl := List.mem_singleton.1 hm
      exact h1 hx
theorem pw_nodup (n w d : Nat) : ((List.range d).map (fun j => (80 : UInt8) :: wrS (n + j) w)).Nodup := by
  refine List.pairwise_map.2 (List.Pairwise.imp (fun {a b} h e => h ?_) List.nodup_range)
  have := congrArg numL e
  rw [pw_num, pw_num] at this
  omega
theorem pw_none (c : UInt8) (hc : dg c = false) (h8 : c ≠ 80) (n w : Nat) : c ∉ (80 : UInt8) :: wrS n w := by
  intro h
  rcases List.mem_cons.1 h with h | h
  · exact h8 h
  · rw [wr_dgs n w c h] at hc; cases hc
theorem splitL_one : ∀ (l : Str), 59 ∉ l → splitL l = [l]
  | [], _ => rfl
  | c :: s, h => by
    have ih := splitL_one s (fun hm => h (.tail _ hm))
    unfold splitL
    rw [if_neg (fun e => h (by rw [e]; exact .head _)), ih]
    rfl
theorem index_dots (b : Str) : ∀ (a : Str), 46 ∉ a → index (a ++ 46 :: 46 :: b) [46, 46] = a.length
  | [], _ => by simp [index]
  | c :: a, h => by
    have ih := index_dots b a (fun hm => h (.tail _ hm))
    have hc : ¬ (46 : UInt8) = c := fun e => h (by rw [e]; exact .head _)
    show index (c :: (a ++ 46 :: 46 :: b)) [46, 46] = _
    unfold index
    rw [ih, if_neg (by simp [hc]), if_neg (by simp only [beq_iff_eq]; omega)]
    simp
theorem index_none : ∀ (b : Str), 46 ∉ b → index b [46, 46] = -1
  | [], _ => rfl
  | c :: b, h => by
    have ih := index_none b (fun hm => h (.tail _ hm))
    have hc : ¬ (46 : UInt8) = c := fun e => h (by rw [e]; exact .head _)
    unfold index
    rw [ih, if_neg (by simp [hc])]
    rfl
theorem cut_dots (a b : Str) (h : 46 ∉ a) : Lib.cut (a ++ 46 :: 46 :: b) dots2 = (a, b, true) := by
  unfold Lib.cut dots2
  rw [index_dots b a h, if_pos (by omega)]
  simp
/-- The text of the range. -/
def pwText (n d w : Nat) : Str := (80 :: wrS n w) ++ 46 :: 46 :: (80 :: wrS (n + d) w)
theorem pw_part (n d w : Nat) (hw : w ≤ 15) (hn : n + d < 1000000) (m : Int) : partM (pwText n d w) m = if m < ((d + 1 : Nat) : Int) then ([], 2) else (expandL (80 :: wrS n w) (d + 1), 0) := by
  have h1 := dec_len n 6 (by omega) (by omega)
  have h2 := dec_len (n + d) 6 (by omega) (by omega)
  have hc := cut_dots (80 :: wrS n w) (80 :: wrS (n + d) w) (pw_none 46 (by decide) (by decide) n w)
  have hb : befP (pwText n d w) = 80 :: wrS n w := by unfold befP pwText; rw [hc]
  have ha : aftP (pwText n d w) = 80 :: wrS (n + d) w := by unfold aftP pwText; rw [hc]
  have hi : isP (pwText n d w) = true := by unfold isP pwText; rw [hc]
  have hq : nP (pwText n d w) = d + 1 := by unfold nP; rw [if_pos hi, hb, ha, pw_range]
  have hcon : Lib.contains (80 :: wrS (n + d) w) dots2 = false := by
    unfold Lib.contains dots2
    rw [index_none _ (pw_none 46 (by decide) (by decide) _ _)]
    rfl
  unfold partM
  rw [hb, ha, hi, hq, pw_valid n w hw (by omega), pw_valid (n + d) w hw (by omega), hcon, if_neg (by simp [pwText]), if_neg (by simp), if_neg (by omega)]
theorem pw_list (n d w : Nat) (hw : w ≤ 15) (hn : n + d < 1000000) : listM (pwText n d w) = if 64 ≤ d then ([], 2) else ((List.range (d + 1)).map (fun j => 80 :: wrS (n + j) w), 0) := by
  have hs : splitL (pwText n d w) = [pwText n d w] := splitL_one _ (fun h => by
    rcases List.mem_append.1 h with h | h
    · exact pw_none 59 (by decide) (by decide) _ _ h
    · rcases List.mem_cons.1 h with h | h
      · cases h
      · rcases List.mem_cons.1 h with h | h
        · cases h
        · exact pw_none 59 (by decide) (by decide) _ _ h)
  have hp := pw_part n d w hw hn (64 - (([] : List Str).length : Int))
  unfold listM
  rw [if_neg (by simp [pwText]), hs]
  by_cases hd : 64 ≤ d
  · rw [if_pos (by simp; omega)] at hp
    rw [if_pos hd]
    simp only [listGo, hp]
    rfl
  · rw [if_neg (by simp; omega)] at hp
    rw [if_neg hd]
    simp only [listGo, hp, pw_expand]
    have hck : checkM ((List.range (d + 1)).map (fun j => (80 : UInt8) :: wrS (n + j) w)) = 0 := by
      unfold checkM
      rw [if_neg (by simp; omega)]
      refine checkGo_ok _ _ (fun c hc => ?_) (fun c _ => by simp) (pw_nodup n w (d + 1))
      obtain ⟨j, hj, rfl⟩ := List.mem_map.1 hc
      have hj' := List.mem_range.1 hj
      have := dec_len (n + j) 6 (by omega) (by omega)
      exact pw_valid _ _ hw (by omega)
    simp [hck]
end Go.Proofs.YteckefolakjafaaGreatDoor.S3

