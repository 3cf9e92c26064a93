/-
  Whether two lists of strings are equal: the reference's SameStrings. Conditions: both lie in memory.
  What is kept while the dice give out numbers, and what a function hands back through a cell. Conditions: as the lemmas state.
  What the walks of this stage import. No program beyond the types' facts.
  Numbers with a width, and a code's last number: plain mathematics. No program, no conditions.
  Reading ways, as mathematics: fields, entries, networks, tables. No program.
  Small general facts and definitions, taken out of R8A. No program.
  Tables in memory; the place of a string in a list: slices.Index, slices.Contains, place of the specification. Conditions: the strings lie in memory.
-/
import Derived.Test.YtocmbifljkcmeaaDoorTN01
import Derived.Lib.Bytealg
import Derived.Test.YtocmbifljkcmeaaDoorProg
import Derived.WalkKit
import Derived.WalkSpells
import Derived.WalkLawsBesides
import Derived.Lib.Hide
import Derived.Deep.QuietTactic
import Derived.BigQuiet
import Derived.Laws.Rows
import Derived.OwnWalk
import Derived.Lib.BufferWrite
import Derived.Lib.UnsafeStr
import Derived.Laws.IdiomStrings
import Derived.Laws.BytesArg
import Derived.Laws.BytesString
import Derived.Laws.OwnMore
import Derived.Handy
import Derived.Laws.ResultCell
import Derived.Lib.IndexLaws
import Derived.Lib.ItoaNum
import Derived.Lib.Atoi
import Derived.RegionTactic
import Derived.Deep.DeepCutAuto
import Derived.Deep.CutBlock
import Derived.Deep.RegionHeld3
import Derived.Deep.RegionLaw
import Derived.Deep.RegionWith
import Derived.Deep.AppendLies
import Derived.Maps.AppendAt
import Derived.StillTailTactics
import Derived.Shelf.Abstract
import Derived.Lib.SlTrimSet
set_option linter.unusedVariables false
namespace Go.Proofs.YtocmbifljkcmeaaDoor.S3
open Go Go.Proofs Go.RowKit Go.Lib

theorem take_eq_succ (la lb : List Str) (i : Nat) (hi : i < la.length) (hl : la.length = lb.length) (h : la.take i = lb.take i) : (la.take (i + 1) = lb.take (i + 1)) ↔ la[i] = lb[i]'(by omega) := by
  rw [List.take_add_one, List.take_add_one, List.getElem?_eq_getElem hi, List.getElem?_eq_getElem (show i < lb.length by omega), h]
  constructor
  · intro e
    simpa using List.append_cancel_left e
  · intro e
    rw [e]

set_option maxHeartbeats 2000000 in
set_option maxRecDepth 100000 in
theorem sameStrings_any (A A' : Option Addr) (la lb : List Str) (ca cb : Nat) (P P' : Nat → Prop) (w : World) (ha : StrsIn w P A la) (hb : StrsIn w P' A' lb) (h63 : la.length ≤ 9223372036854775807) :
    Calls Tryd.prog 33 #[.slice A la.length ca, .slice A' lb.length cb] w fun e w' => e = .returned (.bool (decide (la = lb))) ∧ ∃ q, w' = w.drewN q := by
  by_cases hl : la.length = lb.length
  · have hlz : ((la.length : Int) != (lb.length : Int)) = false := by simp [hl]
    obtain ⟨ANS, hANS⟩ : ∃ ANS, decide (la = lb) = ANS := ⟨_, rfl⟩
    rw [hANS]
    have HA := hid ha
    have HB := hid hb
    have HL := hid hl
    have HANS := hid hANS
    clear ha hb hl hANS
    go_enter Tryd.func33, Tryd.ntmps33
    go_wp2
    go_loopw [5] (fun iv wr => ∃ i : Nat, iv = .int .i64 (i : Int) ∧ i ≤ la.length ∧ Hid (la.take i = lb.take i) ∧ ∃ q, wr = w.drewN q) (fun iv _ => la.length - (RowKit.intOf iv).toNat)
    case atStart => exact ⟨0, rfl, Nat.zero_le _, hid rfl, 0, rfl⟩
    case round =>
      obtain ⟨i, rfl, hi, ht, q, rfl⟩ := hrel
      by_cases hlt : i < la.length
      · have hltz : (i : Int) < (la.length : Int) := by omega
        have hlt' : i < lb.length := by rw [← HL.out]; exact hlt
        have hltz' : (i : Int) < (lb.length : Int) := by omega
        obtain ⟨b1, o1, rfl, _, hc1⟩ := HA.out.at_ hlt
        obtain ⟨b2, o2, rfl, _, hc2⟩ := HB.out.at_ hlt'
        have hiff := take_eq_succ la lb i hlt HL.out ht.out
        obtain ⟨x, hx⟩ : ∃ x, la[i] = x := ⟨_, rfl⟩
        obtain ⟨y, hy⟩ : ∃ y, lb[i] = y := ⟨_, rfl⟩
        rw [hx] at hc1 hiff
        rw [hy] at hc2 hiff
        obtain ⟨X, hX⟩ : ∃ X : ByteArray, (⟨x.toArray⟩ : ByteArray) = X := ⟨_, rfl⟩
        obtain ⟨Y, hY⟩ : ∃ Y : ByteArray, (⟨y.toArray⟩ : ByteArray) = Y := ⟨_, rfl⟩
        have hXl : X.toList = x := by rw [Lib.toList_data, ← hX]
        have hYl : Y.toList = y := by rw [Lib.toList_data, ← hY]
        have e1 : strV x = .string X := by rw [← hX]; rfl
        have e2 : strV y = .string Y := by rw [← hY]; rfl
        rw [e1] at hc1
        rw [e2] at hc2
        have HIFF := hid hiff
        have HX := hid hx
        have HY := hid hy
        by_cases hxy : x = y
        · have hbe : (X.toList != Y.toList) = false := by rw [hXl, hYl, hxy]; simp
          have hbe2 : (X.toList == Y.toList) = true := by rw [hXl, hYl, hxy]; simp
          clear hiff hx hy hX hY hXl hYl e1 e2
          go_wp2
          go_quiet (fail)
          go_wp2
          go_roundw
          case rel => exact ⟨i + 1, by go_num, by omega, hid (HIFF.out.2 hxy), q + nq, rfl⟩
          case measure => simp [RowKit.intOf]; omega
        · have hbe : (X.toList != Y.toList) = true := by rw [hXl, hYl]; simpa using hxy
          have hbe2 : (X.toList == Y.toList) = false := by rw [hXl, hYl]; simpa using hxy
          have hf : ANS = false := by
            rw [← HANS.out]
            apply decide_eq_false
            intro e
            subst e
            exact hxy (by rw [← HX.out, ← HY.out])
          subst hf
          clear hiff hx hy hX hY hXl hYl e1 e2
          go_wp2
          go_quiet (fail)
          go_wp2
          go_ret
          exact ⟨rfl, q + nq, by rw [World.drewN_drewN]⟩
      · have hltz : ¬ (i : Int) < (la.length : Int) := by omega
        have hf : ANS = true := by
          rw [← HANS.out]
          apply decide_eq_true
          have h := ht.out
          rwa [List.take_of_length_le (by omega), List.take_of_length_le (by have := HL.out; omega)] at h
        subst hf
        go_wp2
        go_ret
        exact ⟨rfl, q, rfl⟩
  · have hlz : ((la.length : Int) != (lb.length : Int)) = true := by simp; omega
    have hf : decide (la = lb) = false := decide_eq_false (fun e => hl (by rw [e]))
    rw [hf]
    clear ha hb
    go_enter Tryd.func33, Tryd.ntmps33
    go_wp2
    go_ret
    exact ⟨rfl, 0, rfl⟩
end Go.Proofs.YtocmbifljkcmeaaDoor.S3

set_option linter.unusedVariables false
namespace Go.Proofs.YtocmbifljkcmeaaDoor
open Go Go.Proofs Go.RowKit Go.Lib

section
variable {w0 w w' : World} {g c k k' : Nat} {A : Option Addr} {L : List Int}
end
theorem Rolled.cells {g : Nat} {w w' : World} (h : Rolled g w w') : ∀ b o, b ≠ g → w'.cell? ⟨b, o, none⟩ = w.cell? ⟨b, o, none⟩ := fun b o hb => World.cell?_of_block (w := w) (h.block b hb)
theorem Rolled.frozen {g : Nat} {w w' : World} (h : Rolled g w w') : ∀ b o, b ≠ g → w'.frozen? ⟨b, o, none⟩ = w.frozen? ⟨b, o, none⟩ := fun b o hb => World.frozen?_of_block (w := w) (h.block b hb)
theorem results_c {fn : Func} {p : Tmp} {A : TypeId} (h : fn.results = #[.cell p A]) (tmps : Array Value) (P : Program) (w : World) (a : Addr) (va : Value)
    (ha : tmps.getD p undef = .pointer (some a)) (hla : (loadVar A a).run P w = .ok va w) : (results fn tmps).run P w = .ok va w := by
  rw [Array.getD_eq_getD_getElem?] at ha
  simp only [results, h]
  simp [ha, hla, asAddr]
end Go.Proofs.YtocmbifljkcmeaaDoor

set_option linter.unusedVariables false
namespace Go.Proofs.YtocmbifljkcmeaaDoor
open Go Go.Proofs Go.RowKit Go.Lib
/-- A call that returns a value and turns nothing that was there. -/
def Says (v : Value) (w : World) (e : Ending) (w' : World) : Prop := e = .returned v ∧ Below w.heap.size w w'
theorem below_drewN' {B : Nat} {a w : World} (h : Below B a w) (q : Nat) : Below B a (w.drewN q) := S3.below_drewN h q
end Go.Proofs.YtocmbifljkcmeaaDoor

set_option linter.unusedVariables false
namespace Go.Proofs.YtocmbifljkcmeaaDoor.S3
open Go Go.Lib

def Dgs (l : Str) : Prop := ∀ c ∈ l, dg c = true
def numN (l : Str) : Nat := l.foldl (fun n c => 10 * n + (c.toNat - 48)) 0
theorem dg_val {c : UInt8} (h : dg c = true) : 48 ≤ c.toNat ∧ c.toNat ≤ 57 := by simpa [dg] using h
theorem decFrom_fold : ∀ (l : Str) (acc : Nat), Dgs l → Lib.decFrom acc l = some (l.foldl (fun n c => 10 * n + (c.toNat - 48)) acc)
  | [], acc, _ => rfl
  | c :: r, acc, h => by
    have hc := dg_val (h c (by simp))
    unfold Lib.decFrom Lib.digitVal
    rw [if_pos hc]
    simp only
    rw [decFrom_fold r _ (fun x hx => h x (List.mem_cons_of_mem _ hx)), List.foldl_cons, Nat.mul_comm acc 10]
theorem atoi_num (l : Str) (h0 : l ≠ []) (h : Dgs l) : Lib.atoi l = some (numN l : Int) := by
  cases l with
  | nil => exact absurd rfl h0
  | cons c r =>
    have hc := dg_val (h c (by simp))
    have e1 : (c == 45) = false := by
      rw [beq_eq_false_iff_ne]
      rintro rfl
      simp at hc
    have e2 : (c == 43) = false := by
      rw [beq_eq_false_iff_ne]
      rintro rfl
      simp at hc
    unfold Lib.atoi
    dsimp only
    rw [e1, e2, if_neg (by simp), if_neg (by simp)]
    unfold Lib.decNat
    rw [if_neg (by simp), decFrom_fold _ 0 h]
    rfl
theorem fold_le : ∀ (l : Str) (acc : Nat), Dgs l → l.foldl (fun n c => 10 * n + (c.toNat - 48)) acc < (acc + 1) * 10 ^ l.length
  | [], acc, _ => by simp
  | c :: r, acc, h => by
    have hc := dg_val (h c (by simp))
    have ih := fold_le r (10 * acc + (c.toNat - 48)) (fun x hx => h x (List.mem_cons_of_mem _ hx))
    rw [List.foldl_cons, List.length_cons, Nat.pow_succ]
    refine Nat.lt_of_lt_of_le ih ?_
    rw [Nat.mul_comm (10 ^ r.length) 10, ← Nat.mul_assoc]
    exact Nat.mul_le_mul_right _ (by omega)
theorem numN_lt (l : Str) (h : Dgs l) : numN l < 10 ^ l.length := by
  have := fold_le l 0 h
  simpa [numN] using this
/-! ### the last number of a code -/
end Go.Proofs.YtocmbifljkcmeaaDoor.S3

set_option linter.unusedVariables false
namespace Go.Proofs.YtocmbifljkcmeaaDoor
open Go Go.Proofs Go.RowKit Go.Lib

/-- A way: its two buildings, its slots. -/
abbrev WayD := Str × Str × Int
def wayVs (w : WayD) : List Value := [.string (ba w.1), .string (ba w.2.1), .int .i64 w.2.2]
def wayV (w : WayD) : Value := .agg #[.string (ba w.1), .string (ba w.2.1), .int .i64 w.2.2]
/-- A number of at most two digits, zeros in front among them. -/
def numT (s : Str) : Int × Bool := if s ≠ [] ∧ s.length ≤ 2 ∧ s.all S3.dg = true then (((S3.numN s : Nat) : Int), true) else (0, false)
theorem numT_rng (s : Str) : 0 ≤ (numT s).1 ∧ (numT s).1 < 100 := by
  unfold numT
  split
  · rename_i h
    have h1 := S3.numN_lt s (fun c hc => (List.all_eq_true.1 h.2.2) c hc)
    have h2 : 10 ^ s.length ≤ 10 ^ 2 := Nat.pow_le_pow_right (by omega) h.2.1
    simp only
    omega
  · simp
def slotsM (s : Str) : Int × Int := if (numT s).2 = false then (0, 4) else if 24 < (numT s).1 then (0, 3) else ((numT s).1, 0)
theorem slotsM_rng (s : Str) : 0 ≤ (slotsM s).1 ∧ (slotsM s).1 ≤ 24 := by
  have := numT_rng s
  unfold slotsM
  split
  · simp
  · split
    · simp
    · simp only
      omega
def setW (i : Nat) (x : Str) (r : WayD) : WayD × Int :=
  match i with
  | 0 => if S3.validC x = true then ((x, r.2), 0) else (([], r.2), 10)
  | 1 => if S3.validC x = true then ((r.1, x, r.2.2), 0) else ((r.1, [], r.2.2), 10)
  | 2 => ((r.1, r.2.1, (slotsM x).1), (slotsM x).2)
  | _ => (r, 0)
def zeroW : WayD := ([], [], 0)
def wfold : List FieldD → Nat → WayD → WayD × Int × Int
  | [], _, r => (r, 0, 0)
  | f :: fs, i, r => if (setW i f.1 r).2 ≠ 0 then ((setW i f.1 r).1, f.2.1, (setW i f.1 r).2) else wfold fs (i + 1) (setW i f.1 r).1
/-- A way out of the fields of a record; the column of the field in question; the error. -/
def entryW (fs : List FieldD) : WayD × Int × Int := if fs.length ≠ 3 then (zeroW, 0, 9) else wfold fs 0 zeroW
theorem wfold_step (fs : List FieldD) (i : Nat) (h : i < fs.length) (r : WayD) :
    wfold (fs.drop i) i r = if (setW i fs[i].1 r).2 ≠ 0 then ((setW i fs[i].1 r).1, fs[i].2.1, (setW i fs[i].1 r).2) else wfold (fs.drop (i + 1)) (i + 1) (setW i fs[i].1 r).1 := by
  rw [List.drop_eq_getElem_cons h, wfold]
/-- The ways that were read, their buildings in the order in which they were named first. -/
abbrev NetD := List WayD × List Str
def inc (l : List Str) (s : Str) : List Str := if s ∈ l then l else l ++ [s]
def names2 (l : List Str) (w : WayD) : List Str := inc (inc l w.1) w.2.1
def twinB (w v : WayD) : Bool := (decide (w.1 = v.1) && decide (w.2.1 = v.2.1)) || (decide (w.1 = v.2.1) && decide (w.2.1 = v.1))
def dupW (l : List WayD) (w : WayD) : Bool := l.any (twinB w)
def addW (N : NetD) (w : WayD) : NetD × Int :=
  if w.1 = w.2.1 then (N, 1) else if dupW N.1 w = true then (N, 11) else if 8 < (names2 N.2 w).length then (N, 2) else ((N.1 ++ [w], names2 N.2 w), 0)
/-- One record more. -/
def recW (S : NetD × List ProbD) (x : RecD) : NetD × List ProbD :=
  if (entryW x.2).2.2 ≠ 0 then (S.1, S.2 ++ [(x.1, (entryW x.2).2.1, (entryW x.2).2.2)])
  else if (addW S.1 (entryW x.2).1).2 ≠ 0 then (S.1, S.2 ++ [(x.1, (entryW x.2).2.1, (addW S.1 (entryW x.2).1).2)])
  else ((addW S.1 (entryW x.2).1).1, S.2)
def recsW (l : List RecD) : NetD × List ProbD := l.foldl recW (([], []), [])
theorem recsW_take (l : List RecD) (i : Nat) (h : i < l.length) : recsW (l.take (i + 1)) = recW (recsW (l.take i)) l[i] := by
  unfold recsW
  rw [List.take_succ_eq_append_getElem h, List.foldl_append]
  rfl
/-- What is always so of a network. -/
structure NetOk (N : NetD) (m : Nat) : Prop where
  b : N.2.length ≤ 8
  w : N.1.length ≤ m
  a : ∀ v ∈ N.1, v.1 ∈ N.2 ∧ v.2.1 ∈ N.2 ∧ v.1 ≠ v.2.1
  s : ∀ v ∈ N.1, 0 ≤ v.2.2 ∧ v.2.2 ≤ 24
theorem mem_inc (l : List Str) (s : Str) : s ∈ inc l s := by
  unfold inc
  split
  · assumption
  · simp
theorem mem_inc_old {l : List Str} {s x : Str} (h : x ∈ l) : x ∈ inc l s := by
  unfold inc
  split
  · exact h
  · simp [h]
theorem inc_len (l : List Str) (s : Str) : (inc l s).length = l.length + (if s ∈ l then 0 else 1) := by
  unfold inc
  split <;> simp
theorem names2_len {l : List Str} {w : WayD} (h : w.1 ≠ w.2.1) : (names2 l w).length = l.length + (if w.1 ∈ l then 0 else 1) + (if w.2.1 ∈ l then 0 else 1) := by
  unfold names2
  rw [inc_len, inc_len]
  have : w.2.1 ∈ inc l w.1 ↔ w.2.1 ∈ l := by
    unfold inc
    split
    · rfl
    · simp [Ne.symm h]
  by_cases h2 : w.2.1 ∈ l
  · rw [if_pos h2, if_pos (this.2 h2)]
  · rw [if_neg h2, if_neg (fun k => h2 (this.1 k))]
theorem NetOk.add {N : NetD} {m : Nat} {w : WayD} (h : NetOk N m) (hw : 0 ≤ w.2.2 ∧ w.2.2 ≤ 24) : NetOk (addW N w).1 (m + 1) := by
  unfold addW
  have hm : NetOk N (m + 1) := ⟨h.b, Nat.le_succ_of_le h.w, h.a, h.s⟩
  split
  · exact hm
  · rename_i hne
    split
    · exact hm
    · split
      · exact hm
      · rename_i h8
        refine ⟨Nat.le_of_not_lt h8, by simp; exact h.w, fun v hv => ?_, fun v hv => ?_⟩
        · rcases List.mem_append.1 hv with hv | hv
          · obtain ⟨h1, h2, h3⟩ := h.a v hv
            exact ⟨mem_inc_old (mem_inc_old h1), mem_inc_old (mem_inc_old h2), h3⟩
          · rw [List.mem_singleton] at hv
            subst hv
            exact ⟨mem_inc_old (mem_inc _ _), mem_inc _ _, hne⟩
        · rcases List.mem_append.1 hv with hv | hv
          · exact h.s v hv
          · rw [List.mem_singleton] at hv
            subst hv
            exact hw
theorem setW_rng (i : Nat) (x : Str) (r : WayD) (h : 0 ≤ r.2.2 ∧ r.2.2 ≤ 24) : 0 ≤ (setW i x r).1.2.2 ∧ (setW i x r).1.2.2 ≤ 24 := by
  match i with
  | 0 => simp only [setW]; split <;> exact h
  | 1 => simp only [setW]; split <;> exact h
  | 2 => exact slotsM_rng x
  | j + 3 => exact h
theorem wfold_rng : ∀ (fs : List FieldD) (i : Nat) (r : WayD), 0 ≤ r.2.2 ∧ r.2.2 ≤ 24 → 0 ≤ (wfold fs i r).1.2.2 ∧ (wfold fs i r).1.2.2 ≤ 24
  | [], _, _, h => h
  | f :: fs, i, r, h => by
    unfold wfold
    split
    · exact setW_rng i f.1 r h
    · exact wfold_rng fs (i + 1) _ (setW_rng i f.1 r h)
theorem entryW_rng (fs : List FieldD) : 0 ≤ (entryW fs).1.2.2 ∧ (entryW fs).1.2.2 ≤ 24 := by
  unfold entryW
  split
  · simp [zeroW]
  · exact wfold_rng fs 0 zeroW (by simp [zeroW])
theorem NetOk.one {S : NetD × List ProbD} {m : Nat} (h : NetOk S.1 m) (x : RecD) : NetOk (recW S x).1 (m + 1) := by
  have hm : NetOk S.1 (m + 1) := ⟨h.b, Nat.le_succ_of_le h.w, h.a, h.s⟩
  unfold recW
  split
  · exact hm
  · split
    · exact hm
    · exact h.add (entryW_rng x.2)
theorem recsW_ok : ∀ (l : List RecD) (S : NetD × List ProbD) (m : Nat), NetOk S.1 m → NetOk (l.foldl recW S).1 (m + l.length)
  | [], _, _, h => h
  | x :: r, S, m, h => by
    rw [List.foldl_cons, List.length_cons, show m + (r.length + 1) = (m + 1) + r.length by omega]
    exact recsW_ok r _ _ (h.one x)
theorem recsW_net (l : List RecD) : NetOk (recsW l).1 l.length := by
  have := recsW_ok l (([], []), []) 0 ⟨by simp, by simp, fun v hv => by simp at hv, fun v hv => by simp at hv⟩
  rwa [Nat.zero_add] at this
theorem recsW_probs (l : List RecD) : (recsW l).2.length ≤ l.length := by
  unfold recsW
  have : ∀ (l : List RecD) (S : NetD × List ProbD), (l.foldl recW S).2.length ≤ S.2.length + l.length := by
    intro l
    induction l with
    | nil => exact fun S => Nat.le_refl _
    | cons x r ih =>
      intro S
      rw [List.foldl_cons]
      refine Nat.le_trans (ih _) ?_
      have : (recW S x).2.length ≤ S.2.length + 1 := by
        unfold recW
        split
        · simp
        · split <;> simp
      simp
      omega
  simpa using this l (([], []), [])
/-! ### the table of a network -/
def unkF : Fun2 := fun i k => if i = k then 0 else -1
def setT (B : List Str) (F : Fun2) (w : WayD) : Fun2 := upd (upd F (plc B w.1).toNat (plc B w.2.1).toNat w.2.2) (plc B w.2.1).toNat (plc B w.1).toNat w.2.2
def tabW (N : NetD) : Fun2 := N.1.foldl (setT N.2) unkF
def tabK (N : NetD) (k : Nat) : Fun2 := (N.1.take k).foldl (setT N.2) unkF
theorem tabK_step (N : NetD) (k : Nat) (h : k < N.1.length) : tabK N (k + 1) = setT N.2 (tabK N k) N.1[k] := by
  unfold tabK
  rw [List.take_succ_eq_append_getElem h, List.foldl_append]
  rfl
theorem tabK_end (N : NetD) (k : Nat) (h : N.1.length ≤ k) : tabK N k = tabW N := by
  unfold tabK tabW
  rw [List.take_of_length_le h]
/-- What Read gives. -/
def readT (l : List RecD) : TabD × List ProbD := (((recsW l).1.2, tabF (tabW (recsW l).1) (recsW l).1.2.length), (recsW l).2)
theorem plc_in {l : List Str} {s : Str} (h : s ∈ l) : ∃ j : Nat, plc l s = (j : Int) ∧ j < l.length := by
  rcases plc_spec l s with ⟨_, h2⟩ | ⟨j, h1, hj, _⟩
  · exact absurd h h2
  · exact ⟨j, h1, hj⟩
/-! ### the specification's way of reading a record -/
def moreM (B : List Str) (w : WayD) : Nat := (if w.1 ∈ B then 0 else 1) + (if w.2.1 ∈ B then 0 else 1)
/-- A way, the number of the field of an error, the error. -/
def oneR (N : NetD) (fs : List FieldD) : WayD × Int × Int :=
  if fs.length ≠ 3 then (zeroW, -1, 9)
  else if S3.validC (fs.getD 0 ([], 0, false)).1 = false then (((fs.getD 0 ([], 0, false)).1, (fs.getD 1 ([], 0, false)).1, 0), 0, 10)
  else if S3.validC (fs.getD 1 ([], 0, false)).1 = false then (((fs.getD 0 ([], 0, false)).1, (fs.getD 1 ([], 0, false)).1, 0), 1, 10)
  else if (numT (fs.getD 2 ([], 0, false)).1).2 = false then (((fs.getD 0 ([], 0, false)).1, (fs.getD 1 ([], 0, false)).1, 0), 2, 4)
  else if 24 < (numT (fs.getD 2 ([], 0, false)).1).1 then (((fs.getD 0 ([], 0, false)).1, (fs.getD 1 ([], 0, false)).1, 0), 2, 3)
  else if (fs.getD 0 ([], 0, false)).1 = (fs.getD 1 ([], 0, false)).1 then (((fs.getD 0 ([], 0, false)).1, (fs.getD 1 ([], 0, false)).1, (numT (fs.getD 2 ([], 0, false)).1).1), -1, 1)
  else if dupW N.1 ((fs.getD 0 ([], 0, false)).1, (fs.getD 1 ([], 0, false)).1, (numT (fs.getD 2 ([], 0, false)).1).1) = true then (((fs.getD 0 ([], 0, false)).1, (fs.getD 1 ([], 0, false)).1, (numT (fs.getD 2 ([], 0, false)).1).1), -1, 11)
  else if 8 < N.2.length + moreM N.2 ((fs.getD 0 ([], 0, false)).1, (fs.getD 1 ([], 0, false)).1, (numT (fs.getD 2 ([], 0, false)).1).1) then (((fs.getD 0 ([], 0, false)).1, (fs.getD 1 ([], 0, false)).1, (numT (fs.getD 2 ([], 0, false)).1).1), -1, 2)
  else (((fs.getD 0 ([], 0, false)).1, (fs.getD 1 ([], 0, false)).1, (numT (fs.getD 2 ([], 0, false)).1).1), 0, 0)
/-- The record's problem is that of the program; without one the way is that of the program. -/
theorem one_same (N : NetD) (ps : List ProbD) (line : Int) (fs : List FieldD) :
    ((oneR N fs).2.2 = 0 → recW (N, ps) (line, fs) = ((N.1 ++ [(oneR N fs).1], names2 N.2 (oneR N fs).1), ps)) ∧
    ((oneR N fs).2.2 ≠ 0 → ((oneR N fs).2.1 = -1 ∧ recW (N, ps) (line, fs) = (N, ps ++ [(line, 0, (oneR N fs).2.2)])) ∨ ∃ k : Nat, (oneR N fs).2.1 = (k : Int) ∧ k < 3 ∧ fs.length = 3 ∧ recW (N, ps) (line, fs) = (N, ps ++ [(line, (fs.getD k ([], 0, false)).2.1, (oneR N fs).2.2)])) := by
  by_cases h3 : fs.length = 3
  · match fs, h3 with
    | [f0, f1, f2], _ =>
      obtain ⟨a, ca, qa⟩ := f0
      obtain ⟨b, cb, qb⟩ := f1
      obtain ⟨x, cx, qx⟩ := f2
      unfold oneR recW entryW
      simp only [List.length_cons, List.length_nil, Nat.reduceAdd, ne_eq, not_true_eq_false, if_false, List.getD_cons_zero, List.getD_cons_succ, wfold, setW, zeroW]
      by_cases h1 : S3.validC a = true
      · by_cases h2 : S3.validC b = true
        · by_cases hn : (numT x).2 = false
          · have hs : slotsM x = (0, 4) := if_pos hn
            simp [h1, h2, hn, hs]
            exact ⟨2, by omega, by omega, rfl⟩
          · by_cases hr : 24 < (numT x).1
            · have hs : slotsM x = (0, 3) := by unfold slotsM; rw [if_neg hn, if_pos hr]
              simp [h1, h2, hn, hs, hr]
              exact ⟨2, by omega, by omega, rfl⟩
            · have hs : slotsM x = ((numT x).1, 0) := by unfold slotsM; rw [if_neg hn, if_neg hr]
              obtain ⟨n, hnn⟩ : ∃ n, (numT x).1 = n := ⟨_, rfl⟩
              rw [hnn] at hr hs
              simp only [h1, h2, hn, hs, hr, hnn, if_true, if_false, addW, Bool.true_eq_false, not_true_eq_false]
              by_cases hab : a = b
              · simp [hab]
              · have hl := names2_len (l := N.2) (w := (a, b, n)) hab
                have hl2 : (names2 N.2 (a, b, n)).length = N.2.length + moreM N.2 (a, b, n) := by rw [hl]; unfold moreM; dsimp only; omega
                rw [hl2]
                simp only [hab, if_false]
                by_cases hd : dupW N.1 (a, b, n) = true
                · simp [hd]
                · simp only [hd, if_false, Bool.false_eq_true]
                  by_cases h8 : 8 < N.2.length + moreM N.2 (a, b, n)
                  · simp [h8]
                  · simp [h8]
        · have h2' : S3.validC b = false := by simpa using h2
          simp [h1, h2']
          exact ⟨1, by omega, by omega, rfl⟩
      · have h1' : S3.validC a = false := by simpa using h1
        simp [h1']
        exact ⟨0, by omega, by omega, rfl⟩
  · unfold oneR recW entryW
    simp [h3]
end Go.Proofs.YtocmbifljkcmeaaDoor

set_option linter.unusedVariables false
namespace Go.Proofs.YtocmbifljkcmeaaDoor
open Go Go.Proofs Go.RowKit Go.Lib

set_option maxHeartbeats 2000000 in
set_option maxRecDepth 100000 in
theorem index_any (A : Option Addr) (l : List Str) (c : Nat) (x : ByteArray) (P : Nat → Prop) (w : World) (h : S3.StrsIn w P A l) (h63 : l.length ≤ 9223372036854775807) :
    Calls Tryd.prog 35 #[.slice A l.length c, .string x] w fun e w' => e = .returned (.int .i64 (plc l (lst x))) ∧ w = w' := by
  obtain ⟨ANS, hA⟩ : ∃ ANS, plc l (lst x) = ANS := ⟨_, rfl⟩
  rw [hA]
  have HA : Hid (plcN (l.drop 0) (lst x) 0 = ANS) := hid hA
  have HH := hid h
  clear h hA
  go_enter Tryd.func35, Tryd.ntmps35
  go_wp2
  go_loop [5, 8] (fun _ iv => ∃ i : Nat, iv = .int .i64 (i : Int) ∧ i ≤ l.length ∧ Hid (plcN (l.drop i) (lst x) i = ANS)) (fun _ iv => l.length - (RowKit.intOf iv).toNat)
  case atStart => exact ⟨0, rfl, Nat.zero_le _, HA⟩
  case round =>
    obtain ⟨i, rfl, hi, hE⟩ := hrel
    by_cases hlt : i < l.length
    · have hltz : (i : Int) < (l.length : Int) := by omega
      obtain ⟨b1, o1, rfl, _, hc1⟩ := HH.out.at_ hlt
      have hst := plcN_step l (lst x) i hlt
      rw [hE.out] at hst
      obtain ⟨y, hy⟩ : ∃ y, l[i] = y := ⟨_, rfl⟩
      rw [hy] at hc1 hst
      obtain ⟨Y, hY⟩ : ∃ Y : ByteArray, (⟨y.toArray⟩ : ByteArray) = Y := ⟨_, rfl⟩
      have hYl : Y.toList = y := by rw [Lib.toList_data, ← hY]
      have hXl : x.toList = lst x := Lib.toList_data x
      have e1 : S3.strV y = .string Y := by rw [← hY]; rfl
      rw [e1] at hc1
      by_cases hxy : y = lst x
      · have hbe : (x.toList == Y.toList) = true := by rw [hXl, hYl, hxy]; simp
        rw [if_pos hxy] at hst
        have HST := hid hst
        clear hy hY hYl hXl e1 hst hE hxy
        go_wp2
        go_ret
        exact ⟨by rw [HST.out]; rfl, rfl⟩
      · have hbe : (x.toList == Y.toList) = false := by rw [hXl, hYl]; simpa using fun e => hxy e.symm
        rw [if_neg hxy] at hst
        have HST := hid hst.symm
        clear hy hY hYl hXl e1 hst hE hxy
        go_wp2
        go_round
        case rel => exact ⟨i + 1, by go_num, by omega, HST⟩
        case measure => simp [RowKit.intOf]; omega
    · have hltz : ¬ (i : Int) < (l.length : Int) := by omega
      have hst := plcN_end l (lst x) i (by omega)
      rw [hE.out] at hst
      have HST := hid hst
      clear hst hE
      go_wp2
      go_ret
      exact ⟨by rw [HST.out]; rfl, rfl⟩
set_option maxHeartbeats 2000000 in
theorem contains_any (A : Option Addr) (l : List Str) (c : Nat) (x : ByteArray) (P : Nat → Prop) (w : World) (h : S3.StrsIn w P A l) (h63 : l.length ≤ 9223372036854775807) :
    Calls Tryd.prog 28 #[.slice A l.length c, .string x] w fun e w' => e = .returned (.bool (decide (lst x ∈ l))) ∧ w = w' := by
  have cI := index_any A l c x P w h h63
  have hm := plc_mem l (lst x)
  obtain ⟨p, hp⟩ : ∃ p, plc l (lst x) = p := ⟨_, rfl⟩
  rw [hp] at cI hm
  rw [← hm]
  obtain ⟨n, hn⟩ : ∃ n, l.length = n := ⟨_, rfl⟩
  rw [hn] at cI ⊢
  clear hm hp hn h h63
  go_enter Tryd.func28, Tryd.ntmps28
  go_wp2_with fail
  refine cI.mono ?_
  rintro e w' ⟨rfl, rfl⟩
  go_wp2
  go_ret
  exact ⟨rfl, rfl⟩
end Go.Proofs.YtocmbifljkcmeaaDoor

set_option linter.unusedVariables false
namespace Go.Proofs.YtocmbifljkcmeaaDoor
open Go Go.Proofs Go.RowKit Go.Lib

def NumsIn (w : World) (P : Nat → Prop) (A : Option Addr) (l : List Int) : Prop :=
  l = [] ∨ ∃ b off, A = some ⟨b, off, none⟩ ∧ P b ∧ ∀ (j : Nat) (v : Int), l[j]? = some v → w.cell? ⟨b, off + j, none⟩ = some (.int .i64 v)
theorem NumsIn.kept {w w' : World} {P : Nat → Prop} {A : Option Addr} {l : List Int} (h : NumsIn w P A l) (hk : ∀ b, P b → w'.heap[b]? = w.heap[b]?) : NumsIn w' P A l := by
  rcases h with h | ⟨b, off, hA, hP, hc⟩
  · exact .inl h
  · exact .inr ⟨b, off, hA, hP, fun j v hj => (World.cell?_of_block (hk b hP)).trans (hc j v hj)⟩
theorem NumsIn.mono {w : World} {P P' : Nat → Prop} {A : Option Addr} {l : List Int} (h : NumsIn w P A l) (hP : ∀ b, P b → P' b) : NumsIn w P' A l := by
  rcases h with h | ⟨b, off, hA, hb, hc⟩
  · exact .inl h
  · exact .inr ⟨b, off, hA, hP b hb, hc⟩
theorem NumsIn.at_ {w : World} {P : Nat → Prop} {A : Option Addr} {l : List Int} (h : NumsIn w P A l) {k : Nat} (hk : k < l.length) : ∃ b off, A = some ⟨b, off, none⟩ ∧ P b ∧ w.cell? ⟨b, off + k, none⟩ = some (.int .i64 (l.getD k 0)) := by
  rcases h with h | ⟨b, off, hA, hP, hc⟩
  · subst h; simp at hk
  · exact ⟨b, off, hA, hP, by rw [getD_elem hk]; exact hc k _ (List.getElem?_eq_getElem hk)⟩
theorem NumsIn.ints {w : World} {B : Nat} {A : Option Addr} {l : List Int} (h : NumsIn w (fun b => b < B) A l) : IntsIn w B A l := h
/-- A table's rows. -/
def TabIn (w : World) (P : Nat → Prop) (A : Option Addr) (R : List (List Int)) : Prop :=
  R = [] ∨ ∃ b off, A = some ⟨b, off, none⟩ ∧ P b ∧ ∀ (j : Nat) (r : List Int), R[j]? = some r → ∃ A' c', w.cell? ⟨b, off + j, none⟩ = some (.slice A' r.length c') ∧ r.length ≤ c' ∧ c' ≤ 9223372036854775807 ∧ NumsIn w P A' r
theorem TabIn.kept {w w' : World} {P : Nat → Prop} {A : Option Addr} {R : List (List Int)} (h : TabIn w P A R) (hk : ∀ b, P b → w'.heap[b]? = w.heap[b]?) : TabIn w' P A R := by
  rcases h with h | ⟨b, off, hA, hP, hc⟩
  · exact .inl h
  · refine .inr ⟨b, off, hA, hP, fun j r hj => ?_⟩
    obtain ⟨A', c', h1, h2, h3, h4⟩ := hc j r hj
    exact ⟨A', c', (World.cell?_of_block (hk b hP)).trans h1, h2, h3, h4.kept hk⟩
theorem TabIn.mono {w : World} {P P' : Nat → Prop} {A : Option Addr} {R : List (List Int)} (h : TabIn w P A R) (hP : ∀ b, P b → P' b) : TabIn w P' A R := by
  rcases h with h | ⟨b, off, hA, hb, hc⟩
  · exact .inl h
  · refine .inr ⟨b, off, hA, hP b hb, fun j r hj => ?_⟩
    obtain ⟨A', c', h1, h2, h3, h4⟩ := hc j r hj
    exact ⟨A', c', h1, h2, h3, h4.mono hP⟩
theorem TabIn.at_ {w : World} {P : Nat → Prop} {A : Option Addr} {R : List (List Int)} (h : TabIn w P A R) {k : Nat} (hk : k < R.length) :
    ∃ b off A' c', A = some ⟨b, off, none⟩ ∧ P b ∧ w.cell? ⟨b, off + k, none⟩ = some (.slice A' (R.getD k []).length c') ∧ (R.getD k []).length ≤ c' ∧ c' ≤ 9223372036854775807 ∧ NumsIn w P A' (R.getD k []) := by
  rcases h with h | ⟨b, off, hA, hP, hc⟩
  · subst h; simp at hk
  · obtain ⟨A', c', h1, h2, h3, h4⟩ := hc k _ (List.getElem?_eq_getElem hk)
    have e : R.getD k [] = R[k] := by simp [List.getD, List.getElem?_eq_getElem hk]
    rw [e]
    exact ⟨b, off, A', c', hA, hP, h1, h2, h3, h4⟩
/-- A square table's cells. -/
theorem TabIn.sq {w : World} {P : Nat → Prop} {S : Option Addr} {R : List (List Int)} {n : Nat} (h : TabIn w P S R) (hs : sqrB R n = true) (hn : 0 < n) :
    ∃ b off, S = some ⟨b, off, none⟩ ∧ P b ∧ ∀ i, i < n → ∃ bi oi ci, w.cell? ⟨b, off + i, none⟩ = some (.slice (some ⟨bi, oi, none⟩) n ci) ∧ P bi ∧ n ≤ ci ∧ ci ≤ 9223372036854775807 ∧ ∀ k, k < n → w.cell? ⟨bi, oi + k, none⟩ = some (.int .i64 (at2 R i k)) := by
  have hl := sqrB_len hs
  rcases h with h | ⟨b, off, hA, hP, hc⟩
  · subst h; simp at hl; omega
  · refine ⟨b, off, hA, hP, fun i hi => ?_⟩
    have hi' : i < R.length := by omega
    obtain ⟨A', c', h1, h2, h3, h4⟩ := hc i _ (List.getElem?_eq_getElem hi')
    have hr := sqrB_row hs hi'
    rw [hr] at h1 h2
    rcases h4 with h4 | ⟨bi, oi, hA', hP', hc'⟩
    · rw [h4] at hr; simp at hr; omega
    · subst hA'
      refine ⟨bi, oi, c', h1, hP', h2, h3, fun k hk => ?_⟩
      have e : R.getD i [] = R[i] := by simp [List.getD, List.getElem?_eq_getElem hi']
      have hk' : k < R[i].length := by omega
      unfold at2
      rw [e, getD_elem hk']
      exact hc' k _ (List.getElem?_eq_getElem hk')
/-- A table: its buildings, its rows. -/
structure TravIn (w : World) (P : Nat → Prop) (A S : Option Addr) (t : TabD) : Prop where
  b : S3.StrsIn w P A t.1
  s : TabIn w P S t.2
theorem TravIn.kept {w w' : World} {P : Nat → Prop} {A S : Option Addr} {t : TabD} (h : TravIn w P A S t) (hk : ∀ b, P b → w'.heap[b]? = w.heap[b]?) : TravIn w' P A S t := ⟨h.b.kept hk, h.s.kept hk⟩
theorem TravIn.mono {w : World} {P P' : Nat → Prop} {A S : Option Addr} {t : TabD} (h : TravIn w P A S t) (hP : ∀ b, P b → P' b) : TravIn w P' A S t := ⟨h.b.mono hP, h.s.mono hP⟩
theorem TravIn.below {w w' : World} {B : Nat} {A S : Option Addr} {t : TabD} (h : TravIn w (fun b => b < B) A S t) (hb : Below B w w') : TravIn w' (fun b => b < B) A S t := h.kept fun b hb' => hb.block b hb'

set_option maxHeartbeats 2000000 in
set_option maxRecDepth 100000 in
theorem place_any (A : Option Addr) (l : List Str) (c : Nat) (x : ByteArray) (P : Nat → Prop) (w : World) (h : S3.StrsIn w P A l) (h63 : l.length ≤ 9223372036854775807) :
    Calls Tryd.prog 32 #[.slice A l.length c, .string x] w fun e w' => e = .returned (.int .i64 (plc l (lst x))) ∧ w = w' := by
  obtain ⟨ANS, hA⟩ : ∃ ANS, plc l (lst x) = ANS := ⟨_, rfl⟩
  rw [hA]
  have HA : Hid (plcN (l.drop 0) (lst x) 0 = ANS) := hid hA
  have HH := hid h
  clear h hA
  go_enter Tryd.func32, Tryd.ntmps32
  go_wp2
  go_loop [5] (fun iv => ∃ i : Nat, iv = .int .i64 (i : Int) ∧ i ≤ l.length ∧ Hid (plcN (l.drop i) (lst x) i = ANS)) (fun iv => l.length - (RowKit.intOf iv).toNat)
  case atStart => exact ⟨0, rfl, Nat.zero_le _, HA⟩
  case round =>
    obtain ⟨i, rfl, hi, hE⟩ := hrel
    by_cases hlt : i < l.length
    · have hltz : (i : Int) < (l.length : Int) := by omega
      obtain ⟨b1, o1, rfl, _, hc1⟩ := HH.out.at_ hlt
      have hst := plcN_step l (lst x) i hlt
      rw [hE.out] at hst
      obtain ⟨y, hy⟩ : ∃ y, l[i] = y := ⟨_, rfl⟩
      rw [hy] at hc1 hst
      obtain ⟨Y, hY⟩ : ∃ Y : ByteArray, (⟨y.toArray⟩ : ByteArray) = Y := ⟨_, rfl⟩
      have hYl : Y.toList = y := by rw [Lib.toList_data, ← hY]
      have hXl : x.toList = lst x := Lib.toList_data x
      have e1 : S3.strV y = .string Y := by rw [← hY]; rfl
      rw [e1] at hc1
      by_cases hxy : y = lst x
      · have hbe : (Y.toList == x.toList) = true := by rw [hXl, hYl, hxy]; simp
        rw [if_pos hxy] at hst
        have HST := hid hst
        clear hy hY hYl hXl e1 hst hE hxy
        go_wp2
        go_ret
        exact ⟨by rw [HST.out]; rfl, rfl⟩
      · have hbe : (Y.toList == x.toList) = false := by rw [hXl, hYl]; simpa using hxy
        rw [if_neg hxy] at hst
        have HST := hid hst.symm
        clear hy hY hYl hXl e1 hst hE hxy
        go_wp2
        go_round
        case rel => exact ⟨i + 1, by go_num, by omega, HST⟩
        case measure => simp [RowKit.intOf]; omega
    · have hltz : ¬ (i : Int) < (l.length : Int) := by omega
      have hst := plcN_end l (lst x) i (by omega)
      rw [hE.out] at hst
      have HST := hid hst
      clear hst hE
      go_wp2
      go_ret
      exact ⟨by rw [HST.out]; rfl, rfl⟩
end Go.Proofs.YtocmbifljkcmeaaDoor

