/-
  Reading ways, as mathematics: fields, entries, networks, tables. No program.
-/
import Derived.Test.YtocmbifljkcmeaaDoorBH
import Derived.Test.YtocmbifljkcmeaaDoorR8K
import Derived.Test.YtocmbifljkcmeaaDoorT3Num
set_option linter.unusedVariables false
namespace Go.Proofs.YtocmbifljkcmeaaDoor
open Go Go.Proofs Go.RowKit Go.Lib

/-- A way: its two buildings, its slots. -/
abbrev WayD := Str × Str × Int
def wayVs (w : WayD) : List Value := [.string (ba w.1), .string (ba w.2.1), .int .i64 w.2.2]
def wayV (w : WayD) : Value := .agg #[.string (ba w.1), .string (ba w.2.1), .int .i64 w.2.2]
/-- A number of at most two digits, zeros in front among them. -/
def numT (s : Str) : Int × Bool := if s ≠ [] ∧ s.length ≤ 2 ∧ s.all S3.dg = true then (((S3.numN s : Nat) : Int), true) else (0, false)
theorem numT_rng (s : Str) : 0 ≤ (numT s).1 ∧ (numT s).1 < 100 := by
  unfold numT
  split
  · rename_i h
    have h1 := S3.numN_lt s (fun c hc => (List.all_eq_true.1 h.2.2) c hc)
    have h2 : 10 ^ s.length ≤ 10 ^ 2 := Nat.pow_le_pow_right (by omega) h.2.1
    simp only
    omega
  · simp
def slotsM (s : Str) : Int × Int := if (numT s).2 = false then (0, 4) else if 24 < (numT s).1 then (0, 3) else ((numT s).1, 0)
theorem slotsM_rng (s : Str) : 0 ≤ (slotsM s).1 ∧ (slotsM s).1 ≤ 24 := by
  have := numT_rng s
  unfold slotsM
  split
  · simp
  · split
    · simp
    · simp only
      omega
def setW (i : Nat) (x : Str) (r : WayD) : WayD × Int :=
  match i with
  | 0 => if S3.validC x = true then ((x, r.2), 0) else (([], r.2), 10)
  | 1 => if S3.validC x = true then ((r.1, x, r.2.2), 0) else ((r.1, [], r.2.2), 10)
  | 2 => ((r.1, r.2.1, (slotsM x).1), (slotsM x).2)
  | _ => (r, 0)
def zeroW : WayD := ([], [], 0)
def wfold : List FieldD → Nat → WayD → WayD × Int × Int
  | [], _, r => (r, 0, 0)
  | f :: fs, i, r => if (setW i f.1 r).2 ≠ 0 then ((setW i f.1 r).1, f.2.1, (setW i f.1 r).2) else wfold fs (i + 1) (setW i f.1 r).1
/-- A way out of the fields of a record; the column of the field in question; the error. -/
def entryW (fs : List FieldD) : WayD × Int × Int := if fs.length ≠ 3 then (zeroW, 0, 9) else wfold fs 0 zeroW
theorem wfold_step (fs : List FieldD) (i : Nat) (h : i < fs.length) (r : WayD) :
    wfold (fs.drop i) i r = if (setW i fs[i].1 r).2 ≠ 0 then ((setW i fs[i].1 r).1, fs[i].2.1, (setW i fs[i].1 r).2) else wfold (fs.drop (i + 1)) (i + 1) (setW i fs[i].1 r).1 := by
  rw [List.drop_eq_getElem_cons h, wfold]
/-- The ways that were read, their buildings in the order in which they were named first. -/
abbrev NetD := List WayD × List Str
def inc (l : List Str) (s : Str) : List Str := if s ∈ l then l else l ++ [s]
def names2 (l : List Str) (w : WayD) : List Str := inc (inc l w.1) w.2.1
def twinB (w v : WayD) : Bool := (decide (w.1 = v.1) && decide (w.2.1 = v.2.1)) || (decide (w.1 = v.2.1) && decide (w.2.1 = v.1))
def dupW (l : List WayD) (w : WayD) : Bool := l.any (twinB w)
def addW (N : NetD) (w : WayD) : NetD × Int :=
  if w.1 = w.2.1 then (N, 1) else if dupW N.1 w = true then (N, 11) else if 8 < (names2 N.2 w).length then (N, 2) else ((N.1 ++ [w], names2 N.2 w), 0)
/-- One record more. -/
def recW (S : NetD × List ProbD) (x : RecD) : NetD × List ProbD :=
  if (entryW x.2).2.2 ≠ 0 then (S.1, S.2 ++ [(x.1, (entryW x.2).2.1, (entryW x.2).2.2)])
  else if (addW S.1 (entryW x.2).1).2 ≠ 0 then (S.1, S.2 ++ [(x.1, (entryW x.2).2.1, (addW S.1 (entryW x.2).1).2)])
  else ((addW S.1 (entryW x.2).1).1, S.2)
def recsW (l : List RecD) : NetD × List ProbD := l.foldl recW (([], []), [])
theorem recsW_take (l : List RecD) (i : Nat) (h : i < l.length) : recsW (l.take (i + 1)) = recW (recsW (l.take i)) l[i] := by
  unfold recsW
  rw [List.take_succ_eq_append_getElem h, List.foldl_append]
  rfl
/-- What is always so of a network. -/
structure NetOk (N : NetD) (m : Nat) : Prop where
  b : N.2.length ≤ 8
  w : N.1.length ≤ m
  a : ∀ v ∈ N.1, v.1 ∈ N.2 ∧ v.2.1 ∈ N.2 ∧ v.1 ≠ v.2.1
  s : ∀ v ∈ N.1, 0 ≤ v.2.2 ∧ v.2.2 ≤ 24
theorem mem_inc (l : List Str) (s : Str) : s ∈ inc l s := by
  unfold inc
  split
  · assumption
  · simp
theorem mem_inc_old {l : List Str} {s x : Str} (h : x ∈ l) : x ∈ inc l s := by
  unfold inc
  split
  · exact h
  · simp [h]
theorem inc_len (l : List Str) (s : Str) : (inc l s).length = l.length + (if s ∈ l then 0 else 1) := by
  unfold inc
  split <;> simp
theorem names2_len {l : List Str} {w : WayD} (h : w.1 ≠ w.2.1) : (names2 l w).length = l.length + (if w.1 ∈ l then 0 else 1) + (if w.2.1 ∈ l then 0 else 1) := by
  unfold names2
  rw [inc_len, inc_len]
  have : w.2.1 ∈ inc l w.1 ↔ w.2.1 ∈ l := by
    unfold inc
    split
    · rfl
    · simp [Ne.symm h]
  by_cases h2 : w.2.1 ∈ l
  · rw [if_pos h2, if_pos (this.2 h2)]
  · rw [if_neg h2, if_neg (fun k => h2 (this.1 k))]
theorem NetOk.add {N : NetD} {m : Nat} {w : WayD} (h : NetOk N m) (hw : 0 ≤ w.2.2 ∧ w.2.2 ≤ 24) : NetOk (addW N w).1 (m + 1) := by
  unfold addW
  have hm : NetOk N (m + 1) := ⟨h.b, Nat.le_succ_of_le h.w, h.a, h.s⟩
  split
  · exact hm
  · rename_i hne
    split
    · exact hm
    · split
      · exact hm
      · rename_i h8
        refine ⟨Nat.le_of_not_lt h8, by simp; exact h.w, fun v hv => ?_, fun v hv => ?_⟩
        · rcases List.mem_append.1 hv with hv | hv
          · obtain ⟨h1, h2, h3⟩ := h.a v hv
            exact ⟨mem_inc_old (mem_inc_old h1), mem_inc_old (mem_inc_old h2), h3⟩
          · rw [List.mem_singleton] at hv
            subst hv
            exact ⟨mem_inc_old (mem_inc _ _), mem_inc _ _, hne⟩
        · rcases List.mem_append.1 hv with hv | hv
          · exact h.s v hv
          · rw [List.mem_singleton] at hv
            subst hv
            exact hw
theorem setW_rng (i : Nat) (x : Str) (r : WayD) (h : 0 ≤ r.2.2 ∧ r.2.2 ≤ 24) : 0 ≤ (setW i x r).1.2.2 ∧ (setW i x r).1.2.2 ≤ 24 := by
  match i with
  | 0 => simp only [setW]; split <;> exact h
  | 1 => simp only [setW]; split <;> exact h
  | 2 => exact slotsM_rng x
  | j + 3 => exact h
theorem wfold_rng : ∀ (fs : List FieldD) (i : Nat) (r : WayD), 0 ≤ r.2.2 ∧ r.2.2 ≤ 24 → 0 ≤ (wfold fs i r).1.2.2 ∧ (wfold fs i r).1.2.2 ≤ 24
  | [], _, _, h => h
  | f :: fs, i, r, h => by
    unfold wfold
    split
    · exact setW_rng i f.1 r h
    · exact wfold_rng fs (i + 1) _ (setW_rng i f.1 r h)
theorem entryW_rng (fs : List FieldD) : 0 ≤ (entryW fs).1.2.2 ∧ (entryW fs).1.2.2 ≤ 24 := by
  unfold entryW
  split
  · simp [zeroW]
  · exact wfold_rng fs 0 zeroW (by simp [zeroW])
theorem NetOk.one {S : NetD × List ProbD} {m : Nat} (h : NetOk S.1 m) (x : RecD) : NetOk (recW S x).1 (m + 1) := by
  have hm : NetOk S.1 (m + 1) := ⟨h.b, Nat.le_succ_of_le h.w, h.a, h.s⟩
  unfold recW
  split
  · exact hm
  · split
    · exact hm
    · exact h.add (entryW_rng x.2)
theorem recsW_ok : ∀ (l : List RecD) (S : NetD × List ProbD) (m : Nat), NetOk S.1 m → NetOk (l.foldl recW S).1 (m + l.length)
  | [], _, _, h => h
  | x :: r, S, m, h => by
    rw [List.foldl_cons, List.length_cons, show m + (r.length + 1) = (m + 1) + r.length by omega]
    exact recsW_ok r _ _ (h.one x)
theorem recsW_net (l : List RecD) : NetOk (recsW l).1 l.length := by
  have := recsW_ok l (([], []), []) 0 ⟨by simp, by simp, fun v hv => by simp at hv, fun v hv => by simp at hv⟩
  rwa [Nat.zero_add] at this
theorem recsW_probs (l : List RecD) : (recsW l).2.length ≤ l.length := by
  unfold recsW
  have : ∀ (l : List RecD) (S : NetD × List ProbD), (l.foldl recW S).2.length ≤ S.2.length + l.length := by
    intro l
    induction l with
    | nil => exact fun S => Nat.le_refl _
    | cons x r ih =>
      intro S
      rw [List.foldl_cons]
      refine Nat.le_trans (ih _) ?_
      have : (recW S x).2.length ≤ S.2.length + 1 := by
        unfold recW
        split
        · simp
        · split <;> simp
      simp
      omega
  simpa using this l (([], []), [])
/-! ### the table of a network -/
def unkF : Fun2 := fun i k => if i = k then 0 else -1
def setT (B : List Str) (F : Fun2) (w : WayD) : Fun2 := upd (upd F (plc B w.1).toNat (plc B w.2.1).toNat w.2.2) (plc B w.2.1).toNat (plc B w.1).toNat w.2.2
def tabW (N : NetD) : Fun2 := N.1.foldl (setT N.2) unkF
def tabK (N : NetD) (k : Nat) : Fun2 := (N.1.take k).foldl (setT N.2) unkF
theorem tabK_step (N : NetD) (k : Nat) (h : k < N.1.length) : tabK N (k + 1) = setT N.2 (tabK N k) N.1[k] := by
  unfold tabK
  rw [List.take_succ_eq_append_getElem h, List.foldl_append]
  rfl
theorem tabK_end (N : NetD) (k : Nat) (h : N.1.length ≤ k) : tabK N k = tabW N := by
  unfold tabK tabW
  rw [List.take_of_length_le h]
/-- What Read gives. -/
def readT (l : List RecD) : TabD × List ProbD := (((recsW l).1.2, tabF (tabW (recsW l).1) (recsW l).1.2.length), (recsW l).2)
theorem plc_in {l : List Str} {s : Str} (h : s ∈ l) : ∃ j : Nat, plc l s = (j : Int) ∧ j < l.length := by
  rcases plc_spec l s with ⟨_, h2⟩ | ⟨j, h1, hj, _⟩
  · exact absurd h h2
  · exact ⟨j, h1, hj⟩
/-! ### the specification's way of reading a record -/
def moreM (B : List Str) (w : WayD) : Nat := (if w.1 ∈ B then 0 else 1) + (if w.2.1 ∈ B then 0 else 1)
/-- A way, the number of the field of an error, the error. -/
def oneR (N : NetD) (fs : List FieldD) : WayD × Int × Int :=
  if fs.length ≠ 3 then (zeroW, -1, 9)
  else if S3.validC (fs.getD 0 ([], 0, false)).1 = false then (((fs.getD 0 ([], 0, false)).1, (fs.getD 1 ([], 0, false)).1, 0), 0, 10)
  else if S3.validC (fs.getD 1 ([], 0, false)).1 = false then (((fs.getD 0 ([], 0, false)).1, (fs.getD 1 ([], 0, false)).1, 0), 1, 10)
  else if (numT (fs.getD 2 ([], 0, false)).1).2 = false then (((fs.getD 0 ([], 0, false)).1, (fs.getD 1 ([], 0, false)).1, 0), 2, 4)
  else if 24 < (numT (fs.getD 2 ([], 0, false)).1).1 then (((fs.getD 0 ([], 0, false)).1, (fs.getD 1 ([], 0, false)).1, 0), 2, 3)
  else if (fs.getD 0 ([], 0, false)).1 = (fs.getD 1 ([], 0, false)).1 then (((fs.getD 0 ([], 0, false)).1, (fs.getD 1 ([], 0, false)).1, (numT (fs.getD 2 ([], 0, false)).1).1), -1, 1)
  else if dupW N.1 ((fs.getD 0 ([], 0, false)).1, (fs.getD 1 ([], 0, false)).1, (numT (fs.getD 2 ([], 0, false)).1).1) = true then (((fs.getD 0 ([], 0, false)).1, (fs.getD 1 ([], 0, false)).1, (numT (fs.getD 2 ([], 0, false)).1).1), -1, 11)
  else if 8 < N.2.length + moreM N.2 ((fs.getD 0 ([], 0, false)).1, (fs.getD 1 ([], 0, false)).1, (numT (fs.getD 2 ([], 0, false)).1).1) then (((fs.getD 0 ([], 0, false)).1, (fs.getD 1 ([], 0, false)).1, (numT (fs.getD 2 ([], 0, false)).1).1), -1, 2)
  else (((fs.getD 0 ([], 0, false)).1, (fs.getD 1 ([], 0, false)).1, (numT (fs.getD 2 ([], 0, false)).1).1), 0, 0)
/-- The record's problem is that of the program; without one the way is that of the program. -/
theorem one_same (N : NetD) (ps : List ProbD) (line : Int) (fs : List FieldD) :
    ((oneR N fs).2.2 = 0 → recW (N, ps) (line, fs) = ((N.1 ++ [(oneR N fs).1], names2 N.2 (oneR N fs).1), ps)) ∧
    ((oneR N fs).2.2 ≠ 0 → ((oneR N fs).2.1 = -1 ∧ recW (N, ps) (line, fs) = (N, ps ++ [(line, 0, (oneR N fs).2.2)])) ∨ ∃ k : Nat, (oneR N fs).2.1 = (k : Int) ∧ k < 3 ∧ fs.length = 3 ∧ recW (N, ps) (line, fs) = (N, ps ++ [(line, (fs.getD k ([], 0, false)).2.1, (oneR N fs).2.2)])) := by
  by_cases h3 : fs.length = 3
  · match fs, h3 with
    | [f0, f1, f2], _ =>
      obtain ⟨a, ca, qa⟩ := f0
      obtain ⟨b, cb, qb⟩ := f1
      obtain ⟨x, cx, qx⟩ := f2
      unfold oneR recW entryW
      simp only [List.length_cons, List.length_nil, Nat.reduceAdd, ne_eq, not_true_eq_false, if_false, List.getD_cons_zero, List.getD_cons_succ, wfold, setW, zeroW]
      by_cases h1 : S3.validC a = true
      · by_cases h2 : S3.validC b = true
        · by_cases hn : (numT x).2 = false
          · have hs : slotsM x = (0, 4) := if_pos hn
            simp [h1, h2, hn, hs]
            exact ⟨2, by omega, by omega, rfl⟩
          · by_cases hr : 24 < (numT x).1
            · have hs : slotsM x = (0, 3) := by unfold slotsM; rw [if_neg hn, if_pos hr]
              simp [h1, h2, hn, hs, hr]
              exact ⟨2, by omega, by omega, rfl⟩
            · have hs : slotsM x = ((numT x).1, 0) := by unfold slotsM; rw [if_neg hn, if_neg hr]
              obtain ⟨n, hnn⟩ : ∃ n, (numT x).1 = n := ⟨_, rfl⟩
              rw [hnn] at hr hs
              simp only [h1, h2, hn, hs, hr, hnn, if_true, if_false, addW, Bool.true_eq_false, not_true_eq_false]
              by_cases hab : a = b
              · simp [hab]
              · have hl := names2_len (l := N.2) (w := (a, b, n)) hab
                have hl2 : (names2 N.2 (a, b, n)).length = N.2.length + moreM N.2 (a, b, n) := by rw [hl]; unfold moreM; dsimp only; omega
                rw [hl2]
                simp only [hab, if_false]
                by_cases hd : dupW N.1 (a, b, n) = true
                · simp [hd]
                · simp only [hd, if_false, Bool.false_eq_true]
                  by_cases h8 : 8 < N.2.length + moreM N.2 (a, b, n)
                  · simp [h8]
                  · simp [h8]
        · have h2' : S3.validC b = false := by simpa using h2
          simp [h1, h2']
          exact ⟨1, by omega, by omega, rfl⟩
      · have h1' : S3.validC a = false := by simpa using h1
        simp [h1']
        exact ⟨0, by omega, by omega, rfl⟩
  · unfold oneR recW entryW
    simp [h3]
end Go.Proofs.YtocmbifljkcmeaaDoor
