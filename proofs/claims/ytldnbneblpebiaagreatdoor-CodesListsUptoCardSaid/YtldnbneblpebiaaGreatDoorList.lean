/-
  The program's List: its contract (listM). Conditions: the library's variables hold what its text lays; the string has fewer than 2^32 - 15 bytes.
-/
import Derived.Test.YtldnbneblpebiaaGreatDoorSplit
set_option linter.unusedVariables false
namespace Go.Proofs.YtldnbneblpebiaaGreatDoor
open Go Go.Proofs Go.RowKit Go.Lib
attribute [local go_sem] Oper.semAt_some

/-- The codes of the parts, behind those that have come. -/
def listGo : List Str → List Str → List Str × Int
  | [], l => (l, 0)
  | p :: ps, l => if (partM p (64 - (l.length : Int))).2 ≠ 0 then ([], (partM p (64 - (l.length : Int))).2) else listGo ps (l ++ (partM p (64 - (l.length : Int))).1)
/-- What List hands back. -/
def listM (s : Str) : List Str × Int :=
  if s = [] then ([], 0) else if (listGo (splitL s) []).2 ≠ 0 then ([], (listGo (splitL s) []).2)
  else if checkM (listGo (splitL s) []).1 ≠ 0 then ([], checkM (listGo (splitL s) []).1) else ((listGo (splitL s) []).1, 0)
theorem listGo_app : ∀ (ps : List Str) (l : List Str) (qs : List Str), (listGo ps l).2 = 0 → listGo (ps ++ qs) l = listGo qs (listGo ps l).1
  | [], l, qs, _ => rfl
  | p :: ps, l, qs, h => by
    simp only [listGo, List.cons_append] at h ⊢
    by_cases hc : (partM p (64 - (l.length : Int))).2 = 0
    · rw [if_neg (by simpa using hc)] at h ⊢
      rw [if_neg (by simpa using hc)]
      exact listGo_app ps _ qs h
    · rw [if_pos hc] at h
      exact absurd h hc
theorem partM_ok (p : Str) (m : Int) (h : (partM p m).2 = 0) : 1 ≤ (partM p m).1.length ∧ ((partM p m).1.length : Int) ≤ m := by
  unfold partM at h ⊢
  split at h
  · simp at h
  · rename_i h1
    rw [if_neg h1]
    split at h
    · simp at h
    · rename_i h2
      rw [if_neg h2]
      split at h
      · simp at h
      · rename_i h3
        rw [if_neg h3]
        split at h
        · simp at h
        · rename_i h4
          rw [if_neg h4]
          simp only
          rw [expandL_len _ _ (by omega)]
          omega
theorem splitL_mem : ∀ (l : Str) (p : Str), p ∈ splitL l → p.length ≤ l.length
  | [], p, h => by simp [splitL] at h; simp [h]
  | c :: s, p, h => by
    have ih := splitL_mem s
    simp only [splitL] at h
    split at h
    · rcases List.mem_cons.1 h with rfl | h
      · simp
      · have := ih p h; simp; omega
    · have hne := splitL_ne s
      obtain ⟨a, t, hat⟩ : ∃ a t, splitL s = a :: t := by cases hs : splitL s with | nil => exact absurd hs hne | cons a t => exact ⟨a, t, rfl⟩
      rw [hat] at h
      simp only [List.headD_cons, List.tail_cons] at h
      rcases List.mem_cons.1 h with rfl | h
      · have := ih a (by rw [hat]; exact .head _); simp; omega
      · have := ih p (by rw [hat]; exact .tail _ h); simp; omega

set_option maxHeartbeats 1000000 in
theorem splitSeq_any (s : ByteArray) (w : World) : Calls Tryz.prog 43 #[.string s, .string ⟨#[59]⟩] w fun e w' =>
    e = .returned (.func (.func 70) #[] #[.pointer (some ⟨w.heap.size + 1, 0, none⟩), .pointer (some ⟨w.heap.size, 0, none⟩), .pointer (some ⟨w.heap.size + 2, 0, none⟩)]) ∧
    w' = ((w.alloc (.cells #[.string s] 9)).alloc (.cells #[.string ⟨#[59]⟩] 9)).alloc (.cells #[.int .i64 0] 3) := by
  have c56 : Calls Tryz.prog 56 #[.string s, .string ⟨#[59]⟩, .int .i64 0] w fun e w' =>
      e = .returned (.func (.func 70) #[] #[.pointer (some ⟨w.heap.size + 1, 0, none⟩), .pointer (some ⟨w.heap.size, 0, none⟩), .pointer (some ⟨w.heap.size + 2, 0, none⟩)]) ∧
      w' = ((w.alloc (.cells #[.string s] 9)).alloc (.cells #[.string ⟨#[59]⟩] 9)).alloc (.cells #[.int .i64 0] 3) := by
    go_enter Tryz.func56, Tryz.ntmps56
    go_wp2
    go_ret
    exact ⟨rfl, rfl⟩
  go_enter Tryz.func43, Tryz.ntmps43
  go_wp2_with fail
  refine c56.mono ?_
  rintro e w' ⟨rfl, rfl⟩
  go_wp2
  go_ret
  exact ⟨rfl, rfl⟩

/-- Between two rounds. -/
structure LInv (N : Nat) (w : World) (st : St) (W : World) : Prop where
  below : Below N w W
  size : N + 6 ≤ W.heap.size
  r1 : Boxed W N 34 (.slice none 0 0)
  r2 : Boxed W (N + 1) 31 (.int .i64 0)
  v1 : Boxed W (N + 3) 9 (.string st.2)
  v2 : Boxed W (N + 4) 9 (.string ⟨#[59]⟩)
  v3 : Boxed W (N + 5) 3 (.int .i64 0)
  acc : ∃ v, Boxed W (N + 2) 34 v ∧ StrRow W (N + 6) v (listGo st.1 []).1
  ok : (listGo st.1 []).2 = 0
  len : (listGo st.1 []).1.length ≤ 64
/-- A round has returned. -/
structure LErr (N : Nat) (w : World) (s : Str) (W : World) : Prop where
  below : Below N w W
  out : ∃ e : Int, (listGo (splitL s) []).2 = e ∧ e ≠ 0 ∧ Boxed W N 34 (.slice none 0 0) ∧ Boxed W (N + 1) 31 (.int .i64 e)
theorem LInv.kept {N : Nat} {w : World} {st : St} {W W' : World} {row : Option Nat} (h : LInv N w st W) (hN : N ≤ w.heap.size) (hg : W.grownBy W' row) (hr : ∀ r, row = some r → N + 6 ≤ r) (hrow : ∀ v, Boxed W (N + 2) 34 v → StrRow W (N + 6) v (listGo st.1 []).1 → v.ownBlock = none ∨ v.ownBlock ≠ row) : LInv N w st W' := by
  have hne : ∀ B, B < N + 6 → some B ≠ row := fun B hB e => by have := hr B e.symm; omega
  obtain ⟨v, hv, hw⟩ := h.acc
  have hs := h.below.size
  exact ⟨h.below.grown hg (by omega) (fun k e => by have := hr k e; omega), Nat.le_trans h.size hg.size, h.r1.kept hg (hne _ (by omega)), h.r2.kept hg (hne _ (by omega)), h.v1.kept hg (hne _ (by omega)), h.v2.kept hg (hne _ (by omega)), h.v3.kept hg (hne _ (by omega)),
    ⟨v, hv.kept hg (hne _ (by omega)), World.ownsRow.kept hw hg (hrow v hv hw)⟩, h.ok, h.len⟩
theorem LInv.own {N B : Nat} {w : World} (hN : N ≤ w.heap.size) (hB : N + 6 ≤ B) : OwnFrom B (LInv N w) := by
  intro st W W' row h hg hr
  refine h.kept hN hg (fun r e => by have := (hr r e).1; omega) (fun v hv hw => ?_)
  rcases hw.2 with ⟨rfl, _⟩ | ⟨g, cap, cur, rfl, _, hgb, _⟩
  · exact .inl rfl
  · refine .inr fun e' => ?_
    obtain ⟨_, o, ho, hc⟩ := hr g (by simpa [Value.ownBlock] using e'.symm)
    rw [hgb] at ho; cases ho; cases hc
theorem LErr.own {N B : Nat} {w : World} {s : Str} (hN : N ≤ w.heap.size) (hB : N + 6 ≤ B) : OwnFrom B (fun (_ : Unit) W => LErr N w s W) := by
  rintro _ W W' row ⟨hb, e, he, h0, h1, h2⟩ hg hr
  have hne : ∀ B, B < N + 6 → some B ≠ row := fun B' hB' e => by have := (hr B' e.symm).1; omega
  have hs := hb.size
  exact ⟨hb.grown hg (by omega) (fun k e => by have := (hr k e).1; omega), e, he, h0, h1.kept hg (hne _ (by omega)), h2.kept hg (hne _ (by omega))⟩
theorem LInv.turn {N : Nat} {w : World} {st : St} {W : World} (h : LInv N w st W) (hN : N ≤ w.heap.size) (r : ByteArray) : LInv N w (st.1, r) (W.setCell ⟨N + 3, 0, none⟩ (.string r)) := by
  have hg := grownBy_setCell' W (N + 3) (.string r)
  have hne : ∀ B, B ≠ N + 3 → some B ≠ some (N + 3) := fun B hB e => hB (by injection e)
  obtain ⟨v, hv, hw⟩ := h.acc
  have hs := h.below.size
  refine ⟨h.below.grown hg (by omega) (fun k e => by injection e; omega), Nat.le_trans h.size hg.size, h.r1.kept hg (hne _ (by omega)), h.r2.kept hg (hne _ (by omega)), h.v1.set _, h.v2.kept hg (hne _ (by omega)), h.v3.kept hg (hne _ (by omega)),
    ⟨v, hv.kept hg (hne _ (by omega)), World.ownsRow.kept hw hg ?_⟩, h.ok, h.len⟩
  refine .inr fun e => ?_
  have := World.ownsRow.lt hw _ e
  omega
theorem LInv.vars {N : Nat} {w : World} {st : St} {W : World} (h : LInv N w st W) : SplitVars (N + 3) st.2 W := ⟨h.v1.cell, h.v1.frozen, h.v2.cell, h.v3.cell⟩
theorem results_cc {fn : Func} {p u : Tmp} {A B : TypeId} (h : fn.results = #[.cell p A, .cell u B]) (tmps : Array Value) (P : Program) (w : World) (a b : Addr) (va vb : Value)
    (ha : tmps.getD p undef = .pointer (some a)) (hb : tmps.getD u undef = .pointer (some b))
    (hla : (loadVar A a).run P w = .ok va w) (hlb : (loadVar B b).run P w = .ok vb w) : (results fn tmps).run P w = .ok (.tuple #[va, vb]) w := by
  rw [Array.getD_eq_getD_getElem?] at ha hb
  simp only [results, h]
  simp [Result.andThen, ha, hb, hla, hlb, asAddr]
theorem load34 {w : World} {k : Nat} {x : Value} (h0 : w.cell? ⟨k, 0, none⟩ = some x) : (loadVar 34 ⟨k, 0, none⟩).run Tryz.prog w = .ok x w := by
  simp [loadVar, go_sem, h0]
theorem load31 {w : World} {k : Nat} {x : Value} (h0 : w.cell? ⟨k, 0, none⟩ = some x) : (loadVar 31 ⟨k, 0, none⟩).run Tryz.prog w = .ok x w := by
  simp [loadVar, go_sem, h0]

end Go.Proofs.YtldnbneblpebiaaGreatDoor
