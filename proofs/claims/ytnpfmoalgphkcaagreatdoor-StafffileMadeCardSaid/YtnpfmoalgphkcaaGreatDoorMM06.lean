/-
  The program's Parse. Conditions: the variables hold what their text lays; the string fits into memory. A time is read as it was written: plain mathematics. No .. Conditions: as stated.
-/
import Derived.Test.YtnpfmoalgphkcaaGreatDoorMM01
import Derived.Test.YtnpfmoalgphkcaaGreatDoorMM02
import Derived.Test.YtnpfmoalgphkcaaGreatDoorMM03
import Derived.Test.YtnpfmoalgphkcaaGreatDoorMM04
import Derived.Test.YtnpfmoalgphkcaaGreatDoorMM05
import Derived.RangeFuncNested
import Derived.RangeFuncBound
import Derived.RangeFuncCalls
import Derived.RangeFuncLeaves
import Derived.Shelf.Abstract
import Derived.Shelf.RegionOpen
import Derived.OwnWalkIn
import Derived.Test.YtnpfmoalgphkcaaGreatDoorProg
import Derived.WalkKit
import Derived.WalkSpells
import Derived.WalkLawsBesides
import Derived.Lib.Hide
import Derived.Deep.QuietTactic
import Derived.BigQuiet
import Derived.Laws.Rows
import Derived.OwnWalk
import Derived.Lib.BufferWrite
import Derived.Lib.UnsafeStr
import Derived.Laws.IdiomStrings
import Derived.Laws.BytesArg
import Derived.Laws.BytesString
import Derived.Laws.OwnMore
import Derived.Lib.IndexLaws
import Derived.Lib.ItoaNum
import Derived.Lib.Atoi
import Derived.Laws.BitsAllLaws
import Derived.Laws.BitsLemmas
import Derived.Deep.MidRow
import Derived.Shelf.Strings.Builder1
import Derived.Shelf.Strings.Builder2
import Derived.Shelf.Strings.OnBuilder
import Derived.Shelf.Strings.BuilderF
import Derived.Shelf.Strings.BuilderK
import Derived.Shelf.Strings.Builder2Cap
import Derived.Shelf.Strconv.Atoi
import Derived.Shelf.Strconv.Itoa0
import Derived.Shelf.Strconv.Itoa1
import Derived.Shelf.LaysM
import Derived.Shelf.Strconv.Itoa2
import Derived.Shelf.Strconv.Itoa3
import Derived.Shelf.Strconv.AtoiErrFast
import Derived.Shelf.Strconv.ParseIntEmpty
import Derived.Shelf.Strconv.AtoiFail
import Derived.Shelf.Strconv.Clone
import Derived.Shelf.Strconv.SyntaxError
import Derived.Shelf.LaysC
import Derived.Shelf.Strconv.ToError
import Derived.Shelf.Strconv.AtoiErr
import Derived.Shelf.Strings.Search1
import Derived.Shelf.Strings.Search2
import Derived.Shelf.Strings.Search3
import Derived.Shelf.Strings.Cut
import Derived.Shelf.Strings.Shaped
import Derived.Shelf.Strings.Prefix
import Derived.Shelf.Unicode.DecodeSlow
import Derived.Shelf.Strings.BuilderCap
import Derived.Lib.AtoiErrMem
import Derived.Handy
import Derived.TacticsInMore
import Derived.LoopNIn
import Derived.LoopIn
import Derived.Laws.ResultCell
import Derived.Deep.RegionLaw
import Derived.Deep.RegionHeld3
set_option linter.unusedVariables false
namespace Go.Proofs.YtnpfmoalgphkcaaGreatDoor
open Go Go.Proofs Go.RowKit Go.Lib
attribute [local go_sem] Oper.semAt_some
theorem splitL_mem : ∀ (l : Str) (p : Str), p ∈ splitL l → p.length ≤ l.length
  | [], p, h => by simp [splitL] at h; simp [h]
  | c :: s, p, h => by
    have ih := splitL_mem s
    simp only [splitL] at h
    split at h
    · rcases List.mem_cons.1 h with rfl | h
      · simp
      · have := ih p h; simp; omega
    · have hne := splitL_ne s
      obtain ⟨a, t, hat⟩ : ∃ a t, splitL s = a :: t := by cases hs : splitL s with | nil => exact absurd hs hne | cons a t => exact ⟨a, t, rfl⟩
      rw [hat] at h
      simp only [List.headD_cons, List.tail_cons] at h
      rcases List.mem_cons.1 h with rfl | h
      · have := ih a (by rw [hat]; exact .head _); simp; omega
      · have := ih p (by rw [hat]; exact .tail _ h); simp; omega
set_option maxHeartbeats 1000000 in
theorem splitSeq_any (s : ByteArray) (w : World) : Calls Tryz.prog 90 #[.string s, .string ⟨#[44]⟩] w fun e w' =>
    e = .returned (.func (.func 125) #[] #[.pointer (some ⟨w.heap.size + 1, 0, none⟩), .pointer (some ⟨w.heap.size, 0, none⟩), .pointer (some ⟨w.heap.size + 2, 0, none⟩)]) ∧
    w' = ((w.alloc (.cells #[.string s] 9)).alloc (.cells #[.string ⟨#[44]⟩] 9)).alloc (.cells #[.int .i64 0] 3) := by
  have c56 : Calls Tryz.prog 107 #[.string s, .string ⟨#[44]⟩, .int .i64 0] w fun e w' =>
      e = .returned (.func (.func 125) #[] #[.pointer (some ⟨w.heap.size + 1, 0, none⟩), .pointer (some ⟨w.heap.size, 0, none⟩), .pointer (some ⟨w.heap.size + 2, 0, none⟩)]) ∧
      w' = ((w.alloc (.cells #[.string s] 9)).alloc (.cells #[.string ⟨#[44]⟩] 9)).alloc (.cells #[.int .i64 0] 3) := by
    go_enter Tryz.func107, Tryz.ntmps107
    go_wp2
    go_ret
    exact ⟨rfl, rfl⟩
  go_enter Tryz.func90, Tryz.ntmps90
  go_wp2_with fail
  refine c56.mono ?_
  rintro e w' ⟨rfl, rfl⟩
  go_wp2
  go_ret
  exact ⟨rfl, rfl⟩
structure LInv (N : Nat) (w : World) (n : Nat) (st : St) (W : World) : Prop where
  below : Below N w W
  size : N + 7 ≤ W.heap.size
  b0 : Boxed W N 3 (.int .i64 (n : Int))
  r1 : Boxed W (N + 1) 3 (.int .i64 0)
  r2 : Boxed W (N + 2) 28 (.int .i64 0)
  acc : Boxed W (N + 3) 3 (.int .i64 (((goP n st.1 0).1 : Nat) : Int))
  v1 : Boxed W (N + 4) 9 (.string st.2)
  v2 : Boxed W (N + 5) 9 (.string ⟨#[44]⟩)
  v3 : Boxed W (N + 6) 3 (.int .i64 0)
  ok : (goP n st.1 0).2 = 0
structure LErr (N : Nat) (w : World) (n : Nat) (s : Str) (W : World) : Prop where
  below : Below N w W
  out : ∃ e : Int, (goP n (splitL s) 0).2 = e ∧ e ≠ 0 ∧ Boxed W (N + 1) 3 (.int .i64 0) ∧ Boxed W (N + 2) 28 (.int .i64 e)
theorem LInv.kept {N n : Nat} {w : World} {st : St} {W W' : World} {row : Option Nat} (h : LInv N w n st W) (hN : N ≤ w.heap.size) (hg : W.grownBy W' row) (hr : ∀ r, row = some r → N + 7 ≤ r) : LInv N w n st W' := by
  have hne : ∀ B, B < N + 7 → some B ≠ row := fun B hB e => by have := hr B e.symm; omega
  have hs := h.below.size
  exact ⟨h.below.grown hg (by omega) (fun k e => by have := hr k e; omega), Nat.le_trans h.size hg.size, h.b0.kept hg (hne _ (by omega)), h.r1.kept hg (hne _ (by omega)), h.r2.kept hg (hne _ (by omega)), h.acc.kept hg (hne _ (by omega)),
    h.v1.kept hg (hne _ (by omega)), h.v2.kept hg (hne _ (by omega)), h.v3.kept hg (hne _ (by omega)), h.ok⟩
theorem LInv.own {N B n : Nat} {w : World} (hN : N ≤ w.heap.size) (hB : N + 7 ≤ B) : OwnFrom B (LInv N w n) := by
  intro st W W' row h hg hr
  exact h.kept hN hg (fun r e => by have := (hr r e).1; omega)
theorem LErr.own {N B n : Nat} {w : World} {s : Str} (hN : N ≤ w.heap.size) (hB : N + 7 ≤ B) : OwnFrom B (fun (_ : Unit) W => LErr N w n s W) := by
  rintro _ W W' row ⟨hb, e, he, h0, h1, h2⟩ hg hr
  have hne : ∀ B, B < N + 7 → some B ≠ row := fun B' hB' e => by have := (hr B' e.symm).1; omega
  have hs := hb.size
  exact ⟨hb.grown hg (by omega) (fun k e => by have := (hr k e).1; omega), e, he, h0, h1.kept hg (hne _ (by omega)), h2.kept hg (hne _ (by omega))⟩
theorem LInv.turn {N n : Nat} {w : World} {st : St} {W : World} (h : LInv N w n st W) (hN : N ≤ w.heap.size) (r : ByteArray) : LInv N w n (st.1, r) (W.setCell ⟨N + 4, 0, none⟩ (.string r)) := by
  have hg := grownBy_setCell' W (N + 4) (.string r)
  have hne : ∀ B, B ≠ N + 4 → some B ≠ some (N + 4) := fun B hB e => hB (by injection e)
  have hs := h.below.size
  exact ⟨h.below.grown hg (by omega) (fun k e => by injection e; omega), Nat.le_trans h.size hg.size, h.b0.kept hg (hne _ (by omega)), h.r1.kept hg (hne _ (by omega)), h.r2.kept hg (hne _ (by omega)), h.acc.kept hg (hne _ (by omega)), h.v1.set _, h.v2.kept hg (hne _ (by omega)), h.v3.kept hg (hne _ (by omega)), h.ok⟩
theorem LInv.vars {N n : Nat} {w : World} {st : St} {W : World} (h : LInv N w n st W) : SplitVars (N + 4) st.2 W := ⟨h.v1.cell, h.v1.frozen, h.v2.cell, h.v3.cell⟩
theorem results_cc {fn : Func} {p u : Tmp} {A B : TypeId} (h : fn.results = #[.cell p A, .cell u B]) (tmps : Array Value) (P : Program) (w : World) (a b : Addr) (va vb : Value)
    (ha : tmps.getD p undef = .pointer (some a)) (hb : tmps.getD u undef = .pointer (some b))
    (hla : (loadVar A a).run P w = .ok va w) (hlb : (loadVar B b).run P w = .ok vb w) : (results fn tmps).run P w = .ok (.tuple #[va, vb]) w := by
  rw [Array.getD_eq_getD_getElem?] at ha hb
  simp only [results, h]
  simp [Result.andThen, ha, hb, hla, hlb, asAddr]
theorem load3 {w : World} {k : Nat} {x : Value} (h0 : w.cell? ⟨k, 0, none⟩ = some x) : (loadVar 3 ⟨k, 0, none⟩).run Tryz.prog w = .ok x w := by
  simp [loadVar, go_sem, h0]
theorem loadE {w : World} {k : Nat} {x : Value} (h0 : w.cell? ⟨k, 0, none⟩ = some x) : (loadVar 28 ⟨k, 0, none⟩).run Tryz.prog w = .ok x w := by
  simp [loadVar, go_sem, h0]
theorem Boxed.under {W W2 : World} {B : Nat} {t : TypeId} {v : Value} (h : Boxed W B t v) (hb : Below W.heap.size W W2) : Boxed W2 B t v := (hb.block _ h.lt).trans h
theorem keeps_below {W W2 : World} (hb : Below W.heap.size W W2) : KeepsOthers W W2 := ⟨hb.size, fun k o hk _ => (hb.block k (Array.getElem?_eq_some_iff.1 hk).1).trans hk⟩
theorem LInv.under {N n : Nat} {w : World} {st : St} {W W2 : World} (h : LInv N w n st W) (hN : N ≤ w.heap.size) (hb : Below W.heap.size W W2) : LInv N w n st W2 := by
  have hs := h.size
  exact ⟨h.below.trans (hb.mono (by omega)), Nat.le_trans h.size hb.size, Boxed.under h.b0 hb, Boxed.under h.r1 hb, Boxed.under h.r2 hb, Boxed.under h.acc hb, Boxed.under h.v1 hb, Boxed.under h.v2 hb, Boxed.under h.v3 hb, h.ok⟩
theorem LInv.step {N n : Nat} {w : World} {pre : List Str} {r : ByteArray} {W : World} {x : Str} {v : Nat} (h : LInv N w n (pre, r) W) (hN : N ≤ w.heap.size) (hx : goP n (pre ++ [x]) 0 = (v, 0)) :
    LInv N w n (pre ++ [x], r) (W.setCell ⟨N + 3, 0, none⟩ (.int .i64 (v : Int))) := by
  have hg := grownBy_setCell' W (N + 3) (.int .i64 (v : Int))
  have hne : ∀ B, B ≠ N + 3 → some B ≠ some (N + 3) := fun B hB e => hB (by injection e)
  have hs := h.below.size
  refine ⟨h.below.grown hg (by omega) (fun k e => by injection e; omega), Nat.le_trans h.size hg.size, h.b0.kept hg (hne _ (by omega)), h.r1.kept hg (hne _ (by omega)), h.r2.kept hg (hne _ (by omega)), ?_, h.v1.kept hg (hne _ (by omega)), h.v2.kept hg (hne _ (by omega)), h.v3.kept hg (hne _ (by omega)), by rw [hx]⟩
  rw [hx]
  exact h.acc.set _
theorem box_at {W : World} {n : Nat} (h : W.heap.size = n) (t : TypeId) (v : Value) : Boxed (W.alloc (.cells #[v] t)) n t v := by subst h; exact Boxed.new W t v
theorem parse_end {N D : Nat} {W : World} {u0 u1 v e : Value} (h1 : Boxed W (N + 1) 3 u0) (h2 : Boxed W (N + 2) 28 u1) (hD : N + 7 ≤ D) (hK : W.heap[D]? = some (.deferred (some []))) :
    ((W.setCell ⟨N + 1, 0, none⟩ v).setCell ⟨N + 2, 0, none⟩ e).heap[D]? = some (.deferred (some [])) ∧
    Boxed (((W.setCell ⟨N + 1, 0, none⟩ v).setCell ⟨N + 2, 0, none⟩ e).putObj D (.deferred none)) (N + 1) 3 v ∧ Boxed (((W.setCell ⟨N + 1, 0, none⟩ v).setCell ⟨N + 2, 0, none⟩ e).putObj D (.deferred none)) (N + 2) 28 e ∧
    Below N W (((W.setCell ⟨N + 1, 0, none⟩ v).setCell ⟨N + 2, 0, none⟩ e).putObj D (.deferred none)) := by
  have hg1 := grownBy_setCell' W (N + 1) v
  have hg2 := grownBy_setCell' (W.setCell ⟨N + 1, 0, none⟩ v) (N + 2) e
  have hg3 := grownBy_putObj' ((W.setCell ⟨N + 1, 0, none⟩ v).setCell ⟨N + 2, 0, none⟩ e) D (.deferred none)
  have hne : ∀ a b : Nat, a ≠ b → some a ≠ some b := fun a b h e => h (by injection e)
  have hlt := h2.lt
  have k0 : ((W.setCell ⟨N + 1, 0, none⟩ v).setCell ⟨N + 2, 0, none⟩ e).heap[D]? = some (.deferred (some [])) := (KeepsOthers.setCell _ _ _).same D _ ((KeepsOthers.setCell W _ _).same D _ hK rfl) rfl
  refine ⟨k0, ((h1.set v).kept hg2 (hne _ _ (by omega))).kept hg3 (hne _ _ (by omega)), ((h2.kept hg1 (hne _ _ (by omega))).set e).kept hg3 (hne _ _ (by omega)), ?_⟩
  exact (((Below.refl N W).grown hg1 (by omega) (fun k e => by injection e; omega)).grown hg2 (by have := hg1.size; omega) (fun k e => by injection e; omega)).grown hg3 (by have := hg1.size; have := hg2.size; omega) (fun k e => by injection e; omega)
theorem goP_zero (n : Nat) : ∀ xs acc, (goP n xs acc).2 ≠ 0 → goP n xs acc = (0, (goP n xs acc).2)
  | [], acc, h => absurd rfl h
  | x :: xs, acc, h => by
    by_cases hx : (itemM x n).2 = 0
    · rw [goP_ok hx] at h ⊢
      exact goP_zero n xs _ h
    · rw [goP_err hx]
set_option maxHeartbeats 8000000 in
set_option maxRecDepth 100000 in
theorem parse_any (s : ByteArray) (hz : s.size ≤ 4611686018427387904) (N : Int) (w : World) (hE : Env w) : Calls Tryz.prog 111 #[.string s, .int .i64 N] w (ItemOut (parseM (lst s) N) w) := by
  have cL := isLength_any N
  refine (callsIn_wide (n := 9)).1 ?_
  refine callsIn_of_wp_marks Tryz.func111 rfl trivial ?_ rfl
  simp only [Tryz.ntmps111, List.size_toArray, List.length_cons, List.length_nil, Nat.reduceAdd, Nat.reduceSub, Array.replicate_succ, Array.replicate_zero, List.push_toArray, List.append_toArray, List.nil_append, List.cons_append]
  by_cases hN : 1 ≤ N ∧ N ≤ 20
  · obtain ⟨n, rfl⟩ := natN (show 0 ≤ N by omega)
    rw [show lenB (n : Int) = true from decide_eq_true hN] at cL
    have hM : parseM (lst s) (n : Int) = parseN (lst s) n := by
      unfold parseM
      rw [if_pos hN, Int.toNat_natCast]
    rw [hM]
    clear hM
    obtain ⟨R, hR⟩ : ∃ R, parseN (lst s) n = R := ⟨_, rfl⟩
    rw [hR]
    have HR := hid hR
    have hEv := hE.size
    clear hR
    gi_wp2_with fail
    refine ⟨trivial, ?_⟩
    refine (callsIn_wide.2 (cL _)).mono ?_
    rintro e w' ⟨rfl, rfl⟩
    gi_wp2_with fail
    refine ⟨trivial, ?_⟩
    refine (callsIn_wide.2 (splitSeq_any s _)).mono ?_
    rintro e w' ⟨rfl, rfl⟩
    gi_wp2
    obtain ⟨W0, hW0⟩ : ∃ W0, (((((((w.alloc (Obj.cells #[Value.int IntKind.i64 (n : Int)] 3)).alloc (Obj.cells #[Value.int IntKind.i64 0] 3)).alloc (Obj.cells #[Value.int IntKind.i64 0] 28)).alloc (Obj.cells #[Value.int IntKind.i64 0] 3)).alloc (Obj.cells #[Value.string s] 9)).alloc (Obj.cells #[Value.string { data := #[44] }] 9)).alloc (Obj.cells #[Value.int IntKind.i64 0] 3)) = W0 := ⟨_, rfl⟩
    rw [hW0]
    have hI0 : LInv w.heap.size w n ([], s) W0 := by
      rw [← hW0]
      exact ⟨(((((((Below.refl _ w).alloc (Nat.le_refl _) _).alloc (by simp) _).alloc (by simp; omega) _).alloc (by simp; omega) _).alloc (by simp; omega) _).alloc (by simp; omega) _).alloc (by simp; omega) _, by simp,
        ((((((box_at rfl 3 _).alloc _).alloc _).alloc _).alloc _).alloc _).alloc _, (((((box_at (by simp) 3 _).alloc _).alloc _).alloc _).alloc _).alloc _, ((((box_at (by simp) 28 _).alloc _).alloc _).alloc _).alloc _, (((box_at (by simp) 3 _).alloc _).alloc _).alloc _,
        ((box_at (by simp) 9 _).alloc _).alloc _, (box_at (by simp) 9 _).alloc _, box_at (by simp) 3 _, rfl⟩
    have hz0 : w.heap.size + 7 ≤ W0.heap.size := hI0.size
    clear hW0
    refine range_own (by omega) (gf := 125) (lb := #[.pointer (some ⟨w.heap.size + 4 + 1, 0, none⟩), .pointer (some ⟨w.heap.size + 4, 0, none⟩), .pointer (some ⟨w.heap.size + 4 + 2, 0, none⟩)]) rfl (enters_of Tryz.func125 (by kernel_rfl) rfl) (w.heap.size + 4) (by omega)
      (fun st x => ∃ rest, splitL (lst s) = st.1 ++ lst x :: rest) (fun st x => (st.1 ++ [lst x], st.2)) (fun st => st.1 = splitL (lst s)) (LInv w.heap.size w n) (LErr w.heap.size w n (lst s)) ([], s)
      (split_iter _ (w.heap.size + 4) s (by omega) _ (fun st W h => h.vars) (fun st r W h => h.turn (Nat.le_refl _) r)) rfl (LInv.own (Nat.le_refl _) hz0) (LErr.own (Nat.le_refl _) hz0) hI0
      (fun x => { tmps := #[.string s, .int .i64 (n : Int), undef, .pointer (some ⟨w.heap.size, 0, none⟩), .pointer (some ⟨w.heap.size + 1, 0, none⟩), .pointer (some ⟨w.heap.size + 1 + 1, 0, none⟩), .pointer (some ⟨w.heap.size + 1 + 1 + 1, 0, none⟩), .string x, undef, undef, .int .i64 (n : Int), .bool true, .bool false, .string s,
        .func (.func 125) #[] #[.pointer (some ⟨w.heap.size + 1 + 1 + 1 + 1 + 1, 0, none⟩), .pointer (some ⟨w.heap.size + 1 + 1 + 1 + 1, 0, none⟩), .pointer (some ⟨w.heap.size + 1 + 1 + 1 + 1 + 2, 0, none⟩)],
        .string x, undef, undef, undef, undef, undef, undef, undef, undef, undef, undef, undef, undef, undef, undef, undef], defers := [] }) ?assign ?body ?done ?stop
    case assign =>
      intro l x W K hK
      gi_wp2
      exact hK
    case body =>
      rintro l ⟨pre, r⟩ x W hI ⟨rest, hrest⟩
      have hok := hI.ok
      dsimp only at hok hrest ⊢
      have hxs : x.size ≤ 4611686018427387904 := by
        have := splitL_mem (lst s) (lst x) (by rw [hrest]; simp)
        rw [show (lst x).length = x.size from (Lib.size_eq x).symm, show (lst s).length = s.size from (Lib.size_eq s).symm] at this
        omega
      obtain ⟨acc, hacc⟩ : ∃ acc, (goP n pre 0).1 = acc := ⟨_, rfl⟩
      have hgo : ∀ qs, goP n (pre ++ qs) 0 = goP n qs acc := fun qs => by rw [goP_app _ _ _ _ hok, hacc]
      have hal : acc < 2 ^ n := by rw [← hacc]; exact goP_lt n pre 0 (Nat.two_pow_pos n)
      have hEW : Env W := hE.below hI.below (by omega)
      have cP := readItem_any x hxs n (by omega) (by omega) W hEW
      obtain ⟨⟨iv, ie⟩, hR⟩ : ∃ R, itemM (lst x) n = R := ⟨_, rfl⟩
      have hil : iv < 2 ^ n := by have := item_lt (lst x) n; rw [hR] at this; exact this
      have hpN : 2 ^ n ≤ 1048576 := pow_le (show n ≤ 20 by omega)
      have hor := bw_or acc iv (by omega) (by omega)
      rw [hR] at cP
      unfold ItemOut at cP
      dsimp only at cP
      have hb0 := hI.b0.cell
      have HI := hid hI
      have HGo := hid hgo
      have HR1 := hid hR
      clear hgo hok hEW hI hR hil
      by_cases h2 : ie = 0
      · subst h2
        have hG : Hid (goP n (pre ++ [lst x]) 0 = (acc ||| iv, 0)) := hid (by rw [HGo.out, goP_ok (by rw [HR1.out]), HR1.out]; rfl)
        obtain ⟨O, hO⟩ : ∃ O, acc ||| iv = O := ⟨_, rfl⟩
        rw [hO] at hor hG
        clear hO
        gi_wp2_with fail
        refine ⟨trivial, ?_⟩
        refine (CallsIn.inRound l (callsIn_wide.2 cP)).mono ?_
        rintro e W2 ⟨rfl, hb2⟩
        have hI2 := HI.out.under (Nat.le_refl _) hb2
        have ha2 := hI2.acc
        dsimp only at ha2
        rw [hacc] at ha2
        have g1 := ha2.cell
        have g2 := ha2.frozen
        have HI2 := hid hI2
        have HB2 := hid hb2
        clear hI2 hb2 ha2
        gi_wp2
        exact ⟨((keeps_below HB2.out).trans (KeepsOthers.setCell _ _ _)).from _, HI2.out.step (Nat.le_refl _) hG.out⟩
      · have hG : Hid (goP n (splitL (lst s)) 0 = (0, ie)) := hid (by rw [hrest, HGo.out, goP_err (by rw [HR1.out]; exact h2), HR1.out])
        have hne : (ie != 0) = true := by simpa using h2
        clear hor
        gi_wp2_with fail
        refine ⟨trivial, ?_⟩
        refine (CallsIn.inRound l (callsIn_wide.2 cP)).mono ?_
        rintro e W2 ⟨rfl, hb2⟩
        have hI2 := HI.out.under (Nat.le_refl _) hb2
        have k1 := hI2.r1
        have k2 := hI2.r2
        have f1 := k1.frozen
        have f2 := k2.frozen
        have g1 := k1.cell
        have g2 := k2.cell
        gi_wp2
        have q1 := grownBy_setCell' W2 (w.heap.size + 1) (.int .i64 0)
        have q2 := grownBy_setCell' (W2.setCell ⟨w.heap.size + 1, 0, none⟩ (.int .i64 0)) (w.heap.size + 2) (.int .i64 ie)
        have hne' : ∀ a b : Nat, a ≠ b → some a ≠ some b := fun a b h e => h (by injection e)
        refine ⟨(((keeps_below hb2).trans (KeepsOthers.setCell _ _ _)).trans (KeepsOthers.setCell _ _ _)).from _, ⟨?_, ie, by rw [hG.out], h2, (k1.set _).kept q2 (hne' _ _ (by omega)), (k2.kept q1 (hne' _ _ (by omega))).set _⟩⟩
        have hz2 := hI2.size
        exact (hI2.below.grown q1 (by omega) (fun k e => by injection e; omega)).grown q2 (by have := q1.size; omega) (fun k e => by injection e; omega)
    case done =>
      rintro D ⟨pre, r⟩ W hD hfin hI hK
      have hok := hI.ok
      have hacc := hI.acc
      dsimp only at hfin hok hacc
      rw [hfin] at hok hacc
      have f1 := hI.r1.frozen
      have f2 := hI.r2.frozen
      have g1 := hI.r1.cell
      have g2 := hI.r2.cell
      have hBelow := hI.below
      obtain ⟨acc, ha⟩ : ∃ acc, (goP n (splitL (lst s)) 0).1 = acc := ⟨_, rfl⟩
      have hr := parseN_of HR.out (show goP n (splitL (lst s)) 0 = (acc, 0) by rw [← ha, ← hok])
      rw [ha] at hacc
      have g3 := hacc.cell
      by_cases h0 : acc = 0
      · subst h0
        obtain rfl : R = (0, 16) := by rw [hr, if_pos rfl]
        clear hr ha
        gi_wp2
        obtain ⟨k0, k1, k2, k3⟩ := parse_end (v := .int .i64 0) (e := .int .i64 16) hI.r1 hI.r2 (D := D) (by omega) hK
        refine ⟨by simp, .inl ⟨_, _, rfl, run_takeDeferred k0, ?_⟩⟩
        exact ⟨_, results_cc rfl _ _ _ _ _ _ _ rfl rfl (load3 k1.cell) (loadE k2.cell), rfl, hBelow.trans k3⟩
      · obtain rfl : R = (acc, 0) := by rw [hr, if_neg h0]
        have hz0 : ((acc : Int) == 0) = false := by simpa using h0
        clear hr ha
        gi_wp2
        obtain ⟨k0, k1, k2, k3⟩ := parse_end (v := .int .i64 (acc : Int)) (e := .int .i64 0) hI.r1 hI.r2 (D := D) (by omega) hK
        refine ⟨by simp, .inl ⟨_, _, rfl, run_takeDeferred k0, ?_⟩⟩
        exact ⟨_, results_cc rfl _ _ _ _ _ _ _ rfl rfl (load3 k1.cell) (loadE k2.cell), rfl, hBelow.trans k3⟩
    case stop =>
      rintro D W hD ⟨hb, e, he, hne0, h1, h2⟩ hK
      have hg0 : goP n (splitL (lst s)) 0 = (0, e) := by
        have := goP_zero n (splitL (lst s)) 0 (by rw [he]; exact hne0)
        rw [← he, ← this]
      obtain rfl := parseN_err HR.out hg0 hne0
      have hg3 := grownBy_putObj' W D (.deferred none)
      have hne' : ∀ a b : Nat, a ≠ b → some a ≠ some b := fun a b h e => h (by injection e)
      gi_wp2
      refine ⟨by simp, .inl ⟨_, _, rfl, run_takeDeferred hK, ?_⟩⟩
      exact ⟨_, results_cc rfl _ _ _ _ _ _ _ rfl rfl (load3 (h1.kept hg3 (hne' _ _ (by omega))).cell) (loadE (h2.kept hg3 (hne' _ _ (by omega))).cell), rfl, hb.grown hg3 hb.size (fun k e => by injection e; omega)⟩
  · rw [show lenB N = false from decide_eq_false hN] at cL
    have hM : parseM (lst s) N = (0, 3) := if_neg hN
    rw [hM]
    gi_wp2_with fail
    refine ⟨trivial, ?_⟩
    refine (callsIn_wide.2 (cL _)).mono ?_
    rintro e w' ⟨rfl, rfl⟩
    gi_wp2
    refine ⟨_, results_cc rfl _ _ _ _ _ _ _ rfl rfl (load3 (x := .int .i64 0) ?_) (loadE (x := .int .i64 3) ?_), rfl, (((Below.refl _ w).alloc (Nat.le_refl _) _).alloc (by simp) _).alloc (by simp; omega) _⟩
    · exact Boxed.cell ((box_at (by simp) 3 _).alloc _)
    · exact Boxed.cell (box_at (by simp) 28 _)
end Go.Proofs.YtnpfmoalgphkcaaGreatDoor
namespace Go.Proofs.YtnpfmoalgphkcaaGreatDoor
open Go Go.Lib
theorem cutAt (c : UInt8) : ∀ (a r : Str), has c a = false → bef c (a ++ c :: r) = a ∧ aft c (a ++ c :: r) = r ∧ has c (a ++ c :: r) = true
  | [], r, _ => by simp [bef, aft, has]
  | x :: a, r, h => by
    simp [has] at h
    obtain ⟨h1, h2, h3⟩ := cutAt c a r h.2
    simp only [List.cons_append, bef, aft, has, if_neg h.1, h1, h2, h3]
    simp
theorem item24 : ∀ a b : Fin 25, 1 ≤ a.val → a.val ≤ b.val → fromN (itemT a.val b.val) = a.val ∧ toN (itemT a.val b.val) = b.val ∧ has 32 (itemT a.val b.val) = false := by decide +kernel
theorem join_space : ∀ (l : List Str), (∀ x ∈ l, has 32 x = false) → has 32 (joinC l) = false
  | [], _ => rfl
  | [x], h => h x (by simp)
  | x :: y :: l, h => by
    show has 32 (x ++ 44 :: joinC (y :: l)) = false
    rw [has_app, h x (by simp)]
    simp only [has]
    rw [join_space (y :: l) (fun z hz => h z (List.mem_cons_of_mem _ hz))]
    rfl
theorem word_space : ∀ k : Fin 5, has 32 (wordS k.val) = false := by decide
theorem form_space {s n : Nat} (hs : s < 2 ^ n) (hn : n ≤ 20) : has 32 (formN s n) = false := by
  unfold formN
  cases h : nameK s n with
  | some k => exact word_space ⟨k, (nameK_of h).1⟩
  | none =>
    refine join_space _ (fun x hx => ?_)
    obtain ⟨r, hr, rfl⟩ := List.mem_map.1 hx
    obtain ⟨h1, h2, h3⟩ := runs_ok hs hn r hr
    exact (item24 ⟨r.1, by omega⟩ ⟨r.2, by omega⟩ h1 h2).2.2
theorem parseN_form {s n : Nat} (h1 : 1 ≤ s) (hs : s < 2 ^ n) (hn1 : 1 ≤ n) (hn : n ≤ 20) : parseN (formN s n) n = (s, 0) := by
  have h := parse_form h1 hs hn1 hn
  unfold parseM at h
  rw [if_pos (by omega), Int.toNat_natCast] at h
  exact h
theorem parseN_nil (n : Nat) : parseN [] n = (0, 4) := by
  have h : goP n (splitL []) 0 = (0, 4) := by
    show goP n [[]] 0 = _
    have h0 : itemM [] n = (0, 4) := by
      unfold itemM
      rw [show kindOf [] = none by decide]
      rfl
    rw [goP_err (by rw [h0]; simp), h0]
  unfold parseN
  rw [h]
  rfl
theorem valid_of' {k : Nat} {N : Int} (h : validM k N = true) : 1 ≤ N ∧ N ≤ 20 ∧ 1 ≤ k ∧ k < 2 ^ N.toNat := by
  obtain ⟨h1, h2, h3⟩ := of_decide_eq_true h
  refine ⟨h1.1, h1.2, by omega, ?_⟩
  have e : (2 : Int) ^ N.toNat = ((2 ^ N.toNat : Nat) : Int) := by rw [Int.natCast_pow]; rfl
  omega
theorem fits_of {d s b m n k y t l : Int} (h : fitsM d s b m n k y t l = 0) : frameB d s b m n = true ∧ soundB k y t l = true ∧ validM k n = true ∧ y < d ∧ t + l ≤ s := by
  unfold fitsM at h
  split at h
  · split at h
    · rename_i h1 h2
      exact ⟨h1, h2⟩
    · omega
  · omega
theorem time_parts {n k y t l : Nat} (hy : y < 7) (hl : 1 ≤ l) (htl : t + l ≤ 24) (h1 : 1 ≤ k) (hk : k < 2 ^ n) (hn : n ≤ 20) :
    wDay (timeT n k y t l) = dayS y ∧ wSlots (timeT n k y t l) = itemT (t + 1) (t + l) ∧ has 32 (timeT n k y t l) = true ∧
    wThree (timeT n k y t l) = decide (formN k n ≠ [97, 108, 108]) ∧ (formN k n ≠ [97, 108, 108] → wSet (timeT n k y t l) = formN k n) := by
  have hi := (item24 ⟨t + 1, by omega⟩ ⟨t + l, by omega⟩ (by simp) (by simp; omega)).2.2
  dsimp only at hi
  have hd := day_sign ⟨y, hy⟩
  dsimp only at hd
  unfold wDay wSlots wThree wSet timeT
  by_cases hf : formN k n = [97, 108, 108]
  · rw [if_pos hf, List.append_nil]
    obtain ⟨a1, a2, a3⟩ := cutAt 32 (dayS y) (itemT (t + 1) (t + l)) hd
    rw [a1, a2, a3, hi]
    exact ⟨rfl, (bef_miss 32 _ hi).1, rfl, (decide_eq_false (fun h => h hf)).symm, fun h => absurd hf h⟩
  · rw [if_neg hf]
    rw [List.append_assoc, List.cons_append]
    obtain ⟨a1, a2, a3⟩ := cutAt 32 (dayS y) (itemT (t + 1) (t + l) ++ 32 :: formN k n) hd
    obtain ⟨b1, b2, b3⟩ := cutAt 32 (itemT (t + 1) (t + l)) (formN k n) hi
    rw [a1, a2, a3, b1, b2, b3]
    exact ⟨rfl, rfl, rfl, (decide_eq_true hf).symm, fun _ => rfl⟩
theorem time_read {d s b m : Int} {n k y t l : Nat} (hf : fitsM d s b m n k y t l = 0) : timeM d s b m n (timeT n k y t l) = (((k : Int), (y : Int), (t : Int), (l : Int)), 0) := by
  obtain ⟨f1, f2, f3, f4, f5⟩ := fits_of hf
  obtain ⟨g1, g2, g3⟩ := frame_of f1
  obtain ⟨s1, s2, s3, s4, s5⟩ := sound_of f2
  obtain ⟨v1, v2, v3, v4⟩ := valid_of' f3
  rw [Int.toNat_natCast] at v4
  have hn : n ≤ 20 := by omega
  obtain ⟨p1, p2, p3, p4, p5⟩ := time_parts (n := n) (k := k) (y := y) (t := t) (l := l) (by omega) (by omega) (by omega) v3 v4 hn
  have hi := item24 ⟨t + 1, by omega⟩ ⟨t + l, by omega⟩ (by simp) (by simp; omega)
  dsimp only at hi
  obtain ⟨i1, i2, i3⟩ := hi
  have hform := parseN_form v3 v4 (show 1 ≤ n by omega) hn
  have hW : weeksT (timeT n k y t l) n = (k, 0) := by
    unfold weeksT
    rw [p4]
    by_cases hfa : formN k n = [97, 108, 108]
    · rw [if_neg (by simp [hfa])]
      rw [hfa, parse_all (by omega) hn] at hform
      exact hform
    · rw [if_pos (decide_eq_true hfa), p5 hfa]
      exact hform
  have hwb : wordsB (timeT n k y t l) = true := by
    unfold wordsB
    rw [p4]
    refine decide_eq_true (fun h => ?_)
    have hfa := of_decide_eq_true h
    rw [p5 hfa]
    refine ⟨fun e => ?_, form_space v4 hn⟩
    rw [e, parseN_nil] at hform
    injection hform with h1 h2
    simp at h2
  unfold timeM
  rw [if_pos f1, Int.toNat_natCast]
  unfold bodyT
  rw [p1, p2, i1, i2, if_pos ⟨hwb, by omega⟩, dayK_of (show y < 7 by omega) rfl]
  show readT d s n _ y = _
  unfold readT
  rw [p2, i1, i2, hW, if_pos ⟨f4, by omega, by omega⟩, if_pos rfl]
  dsimp only
  congr 1
  refine Prod.ext rfl (Prod.ext rfl (Prod.ext ?_ ?_))
  · show ((t + 1 : Nat) : Int) - 1 = t
    omega
  · show ((t + l : Nat) : Int) - ((t + 1 : Nat) : Int) + 1 = l
    omega
theorem form_lenM {s n : Nat} : (formN s n).length ≤ 200 := by
  unfold formN
  cases nameK s n with
  | some k =>
    show (wordS k).length ≤ 200
    unfold wordS
    split <;> simp
  | none =>
    show (textM s).length ≤ 200
    unfold textM
    have h1 := joinC_len ((runs (weeksP s 20)).map fun r => itemT r.1 r.2) (fun x hx => by
      obtain ⟨r, _, rfl⟩ := List.mem_map.1 hx
      exact itemT_len _ _)
    have h2 := runs_len _ (weeksP s 20) (Nat.le_refl _)
    have h3 := weeksP_len s 20
    rw [List.length_map] at h1
    omega
theorem time_len {n k y t l : Nat} : (timeT n k y t l).length ≤ 300 := by
  have h1 := form_lenM (s := k) (n := n)
  have h2 := itemT_len (t + 1) (t + l)
  have h3 : (dayS y).length ≤ 2 := by unfold dayS; split <;> simp
  unfold timeT
  split
  · simp only [List.length_append, List.length_cons, List.length_nil]
    omega
  · simp only [List.length_append, List.length_cons]
    omega
end Go.Proofs.YtnpfmoalgphkcaaGreatDoor
namespace Go.Proofs.YtnpfmoalgphkcaaGreatDoor
open Go Go.Proofs Go.RowKit Go.Lib
def Says (v : Value) (w : World) (e : Ending) (w' : World) : Prop := e = .returned v ∧ Below w.heap.size w w'
structure Box4 (w : World) (B : Nat) (a b c d : Int) : Prop where
  c0 : w.cell? ⟨B, 0, none⟩ = some (.int .i64 a)
  c1 : w.cell? ⟨B, 1, none⟩ = some (.int .i64 b)
  c2 : w.cell? ⟨B, 2, none⟩ = some (.int .i64 c)
  c3 : w.cell? ⟨B, 3, none⟩ = some (.int .i64 d)
  lt : B < w.heap.size
theorem Box4.next {w w' : World} {B N : Nat} {a b c d : Int} (h : Box4 w B a b c d) (k : Below N w w') (hN : B < N) : Box4 w' B a b c d := by
  have kc : ∀ o : Nat, w'.cell? ⟨B, o, none⟩ = w.cell? ⟨B, o, none⟩ := fun o => k.cell (p := ⟨B, o, none⟩) hN
  exact ⟨(kc 0).trans h.c0, (kc 1).trans h.c1, (kc 2).trans h.c2, (kc 3).trans h.c3, Nat.lt_of_lt_of_le h.lt k.size⟩
theorem Box4.new (w : World) (a b c d : Int) (t : TypeId) : Box4 (w.alloc (.cells #[.int .i64 a, .int .i64 b, .int .i64 c, .int .i64 d] t)) w.heap.size a b c d := by
  have e := heap_alloc_new w (.cells #[.int .i64 a, .int .i64 b, .int .i64 c, .int .i64 d] t)
  refine ⟨?_, ?_, ?_, ?_, by simp⟩
  all_goals (rw [Lib.cell_of_heap e]; rfl)
structure K1 (w0 : World) (a b c d : Int) (w : World) : Prop where
  x : Box4 w w0.heap.size a b c d
  b : Below w0.heap.size w0 w
theorem K1.next {w0 w w' : World} {a b c d : Int} (h : K1 w0 a b c d w) (k : Below w.heap.size w w') : K1 w0 a b c d w' := ⟨h.x.next k h.x.lt, h.b.trans (k.mono h.b.size)⟩
theorem row_drawn {w : World} {B e z n : Nat} {v : Value} {xs : List Value} (h : w.ownsRow B e z v n xs) (q : Nat) : (w.drewN q).ownsRow B e z v n xs :=
  (Rolled.drawn w.heap.size w q).row h (fun e => by have := (h.lt _ e).2; omega)
set_option maxHeartbeats 1000000 in
theorem within_any (n a b : Int) (w : World) : Calls Tryz.prog 103 #[.int .i64 n, .int .i64 a, .int .i64 b] w fun e w' => e = .returned (.bool (decide (a ≤ n ∧ n ≤ b))) ∧ w = w' := by
  by_cases h0 : a ≤ n
  · by_cases h1 : n ≤ b
    · rw [decide_eq_true ⟨h0, h1⟩]
      go_enter Tryz.func103, Tryz.ntmps103
      go_wp2
      go_ret
      exact ⟨rfl, rfl⟩
    · rw [decide_eq_false (fun h => h1 h.2)]
      go_enter Tryz.func103, Tryz.ntmps103
      go_wp2
      go_ret
      exact ⟨rfl, rfl⟩
  · rw [decide_eq_false (fun h => h0 h.1)]
    go_enter Tryz.func103, Tryz.ntmps103
    go_wp2
    go_ret
    exact ⟨rfl, rfl⟩
theorem within_yes {n a b : Int} (h : a ≤ n ∧ n ≤ b) (w : World) : Calls Tryz.prog 103 #[.int .i64 n, .int .i64 a, .int .i64 b] w fun e w' => e = .returned (.bool true) ∧ w = w' := by
  have := within_any n a b w
  rwa [decide_eq_true h] at this
theorem within_no {n a b : Int} (h : ¬ (a ≤ n ∧ n ≤ b)) (w : World) : Calls Tryz.prog 103 #[.int .i64 n, .int .i64 a, .int .i64 b] w fun e w' => e = .returned (.bool false) ∧ w = w' := by
  have := within_any n a b w
  rwa [decide_eq_false h] at this
theorem mul_in {q m : Int} (h1 : 0 ≤ q) (h2 : q ≤ 24) (h3 : 5 ≤ m) (h4 : m ≤ 120) : 0 ≤ q * m ∧ q * m ≤ 2880 := by
  refine ⟨Int.mul_nonneg h1 (by omega), ?_⟩
  exact Int.le_trans (Int.mul_le_mul h2 h4 (by omega) (by omega)) (by omega)
theorem K1.drew {w0 w : World} {a b c d : Int} (h : K1 w0 a b c d w) : K1 w0 a b c d w.drew := h.next (Below.refl _ w).drew
theorem K1.first (w : World) (a b c d : Int) (t : TypeId) : K1 w a b c d (w.alloc (.cells #[.int .i64 a, .int .i64 b, .int .i64 c, .int .i64 d] t)) := ⟨Box4.new w a b c d t, (Below.refl _ w).alloc (Nat.le_refl _) _⟩
structure K2 (w0 : World) (a b c d a' b' c' d' : Int) (w : World) : Prop where
  x : Box4 w w0.heap.size a b c d
  y : Box4 w (w0.heap.size + 1) a' b' c' d'
  b : Below w0.heap.size w0 w
section
variable {w0 w w' : World} {a b c d a' b' c' d' : Int}
theorem K2.next (h : K2 w0 a b c d a' b' c' d' w) (k : Below w.heap.size w w') : K2 w0 a b c d a' b' c' d' w' := ⟨h.x.next k h.x.lt, h.y.next k h.y.lt, h.b.trans (k.mono h.b.size)⟩
theorem K2.drew (h : K2 w0 a b c d a' b' c' d' w) : K2 w0 a b c d a' b' c' d' w.drew := h.next (Below.refl _ w).drew
end
theorem K2.first (w : World) (a b c d a' b' c' d' : Int) (t t' : TypeId) : K2 w a b c d a' b' c' d' ((w.alloc (.cells #[.int .i64 a, .int .i64 b, .int .i64 c, .int .i64 d] t)).alloc (.cells #[.int .i64 a', .int .i64 b', .int .i64 c', .int .i64 d'] t')) := by
  have h1 := K1.first w a b c d t
  have hs : (w.alloc (.cells #[.int .i64 a, .int .i64 b, .int .i64 c, .int .i64 d] t)).heap.size = w.heap.size + 1 := by simp
  generalize w.alloc (.cells #[.int .i64 a, .int .i64 b, .int .i64 c, .int .i64 d] t) = w1 at h1 hs ⊢
  have h2 := Box4.new w1 a' b' c' d' t'
  have k : Below w1.heap.size w1 (w1.alloc (.cells #[.int .i64 a', .int .i64 b', .int .i64 c', .int .i64 d'] t')) := (Below.refl _ w1).alloc (Nat.le_refl _) _
  rw [hs] at h2
  exact ⟨h1.x.next k h1.x.lt, h2, h1.b.trans (k.mono h1.b.size)⟩
set_option maxHeartbeats 1000000 in
theorem minuteOf_any (d s b m q : Int) (h1 : 0 ≤ q) (h2 : q ≤ 24) (h3 : 5 ≤ m) (h4 : m ≤ 120) (h5 : 0 ≤ b) (h6 : b ≤ 1439) (w : World) :
    Calls Tryz.prog 104 #[.agg #[.int .i64 d, .int .i64 s, .int .i64 b, .int .i64 m], .int .i64 q] w (Says (.int .i64 (b + q * m)) w) := by
  have hm := mul_in h1 h2 h3 h4
  have e1 : IntKind.i64.wrap (q * m) = q * m := IntWalk.i64_in _ (by omega)
  have e2 : IntKind.i64.wrap (b + q * m) = b + q * m := IntWalk.i64_in _ (by omega)
  have HK := hid (K1.first w d s b m 24)
  clear hm h1 h2 h3 h4 h5 h6
  unfold Says
  go_enter Tryz.func104, Tryz.ntmps104
  go_wp2
  go_ret
  exact ⟨rfl, HK.out.b⟩
set_option maxHeartbeats 1000000 in
theorem endOf_any (k y t l : Int) (h1 : 0 ≤ t) (h2 : t ≤ 24) (h3 : 0 ≤ l) (h4 : l ≤ 24) (w : World) :
    Calls Tryz.prog 95 #[.agg #[.int .i64 k, .int .i64 y, .int .i64 t, .int .i64 l]] w (Says (.int .i64 (t + l)) w) := by
  have HK := hid (K1.first w k y t l 26)
  unfold Says
  go_enter Tryz.func95, Tryz.ntmps95
  go_wp2
  go_ret
  exact ⟨rfl, HK.out.b⟩
theorem grid_no {d s b m : Int} (h : ¬ GridP d s b m) : gridB d s b m = false := decide_eq_false h
theorem grid_yes {d s b m : Int} (h : GridP d s b m) : gridB d s b m = true := decide_eq_true h
set_option maxHeartbeats 4000000 in
theorem isGrid_any (d s b m : Int) (w : World) : Calls Tryz.prog 84 #[.agg #[.int .i64 d, .int .i64 s, .int .i64 b, .int .i64 m]] w (Says (.bool (gridB d s b m)) w) := by
  by_cases hd : 1 ≤ d ∧ d ≤ 7
  · have c10 := fun w => within_yes hd w
    by_cases hs : 1 ≤ s ∧ s ≤ 24
    · have c11 := fun w => within_yes hs w
      by_cases hb : 0 ≤ b ∧ b ≤ 1439
      · have c12 := fun w => within_yes hb w
        by_cases hm : 5 ≤ m ∧ m ≤ 120
        · have c13 := fun w => within_yes hm w
          have cm := fun w => minuteOf_any d s b m s (by omega) hs.2 hm.1 hm.2 hb.1 hb.2 w
          by_cases h5 : b + s * m ≤ 1440
          · rw [grid_yes ⟨hd, hs, hb, hm, h5⟩]
            have h5d : decide (b + s * m ≤ 1440) = true := decide_eq_true h5
            unfold Says at cm ⊢
            generalize b + s * m = M at cm h5 h5d
            clear hd hs hb hm
            have hk := K1.first w d s b m 24
            go_enter Tryz.func84, Tryz.ntmps84
            go_wp2_with fail
            refine (c10 _).mono ?_
            rintro e w1 ⟨rfl, rfl⟩
            go_wp2_with fail
            refine (c11 _).mono ?_
            rintro e w1 ⟨rfl, rfl⟩
            go_wp2_with fail
            refine (c12 _).mono ?_
            rintro e w1 ⟨rfl, rfl⟩
            go_wp2_with fail
            refine (c13 _).mono ?_
            rintro e w1 ⟨rfl, rfl⟩
            go_wp2_with fail
            refine (cm _).mono ?_
            rintro e w1 ⟨rfl, hb⟩
            have hk := hk.next hb
            clear hb
            go_wp2
            go_ret
            exact ⟨rfl, hk.b⟩
          · rw [grid_no (fun h => h5 h.2.2.2.2)]
            have h5d : decide (b + s * m ≤ 1440) = false := decide_eq_false h5
            unfold Says at cm ⊢
            generalize b + s * m = M at cm h5 h5d
            clear hd hs hb hm
            have hk := K1.first w d s b m 24
            go_enter Tryz.func84, Tryz.ntmps84
            go_wp2_with fail
            refine (c10 _).mono ?_
            rintro e w1 ⟨rfl, rfl⟩
            go_wp2_with fail
            refine (c11 _).mono ?_
            rintro e w1 ⟨rfl, rfl⟩
            go_wp2_with fail
            refine (c12 _).mono ?_
            rintro e w1 ⟨rfl, rfl⟩
            go_wp2_with fail
            refine (c13 _).mono ?_
            rintro e w1 ⟨rfl, rfl⟩
            go_wp2_with fail
            refine (cm _).mono ?_
            rintro e w1 ⟨rfl, hb⟩
            have hk := hk.next hb
            clear hb
            go_wp2
            go_ret
            exact ⟨rfl, hk.b⟩
        · have c13 := fun w => within_no hm w
          rw [grid_no (fun h => hm h.2.2.2.1)]
          unfold Says
          clear hd hs hb hm
          have hk := K1.first w d s b m 24
          go_enter Tryz.func84, Tryz.ntmps84
          go_wp2_with fail
          refine (c10 _).mono ?_
          rintro e w1 ⟨rfl, rfl⟩
          go_wp2_with fail
          refine (c11 _).mono ?_
          rintro e w1 ⟨rfl, rfl⟩
          go_wp2_with fail
          refine (c12 _).mono ?_
          rintro e w1 ⟨rfl, rfl⟩
          go_wp2_with fail
          refine (c13 _).mono ?_
          rintro e w1 ⟨rfl, rfl⟩
          go_wp2
          go_ret
          exact ⟨rfl, hk.b⟩
      · have c12 := fun w => within_no hb w
        rw [grid_no (fun h => hb h.2.2.1)]
        unfold Says
        clear hd hs hb
        have hk := K1.first w d s b m 24
        go_enter Tryz.func84, Tryz.ntmps84
        go_wp2_with fail
        refine (c10 _).mono ?_
        rintro e w1 ⟨rfl, rfl⟩
        go_wp2_with fail
        refine (c11 _).mono ?_
        rintro e w1 ⟨rfl, rfl⟩
        go_wp2_with fail
        refine (c12 _).mono ?_
        rintro e w1 ⟨rfl, rfl⟩
        go_wp2
        go_ret
        exact ⟨rfl, hk.b⟩
    · have c11 := fun w => within_no hs w
      rw [grid_no (fun h => hs h.2.1)]
      unfold Says
      clear hd hs
      have hk := K1.first w d s b m 24
      go_enter Tryz.func84, Tryz.ntmps84
      go_wp2_with fail
      refine (c10 _).mono ?_
      rintro e w1 ⟨rfl, rfl⟩
      go_wp2_with fail
      refine (c11 _).mono ?_
      rintro e w1 ⟨rfl, rfl⟩
      go_wp2
      go_ret
      exact ⟨rfl, hk.b⟩
  · have c10 := fun w => within_no hd w
    rw [grid_no (fun h => hd h.1)]
    unfold Says
    clear hd
    have hk := K1.first w d s b m 24
    go_enter Tryz.func84, Tryz.ntmps84
    go_wp2_with fail
    refine (c10 _).mono ?_
    rintro e w1 ⟨rfl, rfl⟩
    go_wp2
    go_ret
    exact ⟨rfl, hk.b⟩
theorem frame_no {d s b m n : Int} (h : ¬ (gridB d s b m = true ∧ 1 ≤ n ∧ n ≤ 20)) : frameB d s b m n = false := decide_eq_false h
set_option maxHeartbeats 2000000 in
theorem isFrame_any (d s b m n : Int) (w : World) : Calls Tryz.prog 105 #[.agg #[.int .i64 d, .int .i64 s, .int .i64 b, .int .i64 m], .int .i64 n] w (Says (.bool (frameB d s b m n)) w) := by
  have cG := fun w => isGrid_any d s b m w
  unfold Says at cG ⊢
  cases hg : gridB d s b m with
  | true =>
    rw [hg] at cG
    by_cases h1 : 1 ≤ n ∧ n ≤ 20
    · have c1 := fun w => within_yes h1 w
      rw [show frameB d s b m n = true from decide_eq_true ⟨hg, h1⟩]
      clear hg h1
      have hk := K1.first w d s b m 24
      go_enter Tryz.func105, Tryz.ntmps105
      go_wp2_with fail
      refine (cG _).mono ?_
      rintro e w1 ⟨rfl, hb⟩
      have hk := hk.next hb
      clear hb
      go_wp2_with fail
      refine (c1 _).mono ?_
      rintro e w1 ⟨rfl, rfl⟩
      go_wp2
      go_ret
      exact ⟨rfl, hk.b⟩
    · have c1 := fun w => within_no h1 w
      rw [frame_no (fun h => h1 h.2)]
      clear hg h1
      have hk := K1.first w d s b m 24
      go_enter Tryz.func105, Tryz.ntmps105
      go_wp2_with fail
      refine (cG _).mono ?_
      rintro e w1 ⟨rfl, hb⟩
      have hk := hk.next hb
      clear hb
      go_wp2_with fail
      refine (c1 _).mono ?_
      rintro e w1 ⟨rfl, rfl⟩
      go_wp2
      go_ret
      exact ⟨rfl, hk.b⟩
  | false =>
    rw [hg] at cG
    rw [frame_no (fun h => by rw [hg] at h; exact absurd h.1 (by simp))]
    clear hg
    have hk := K1.first w d s b m 24
    go_enter Tryz.func105, Tryz.ntmps105
    go_wp2_with fail
    refine (cG _).mono ?_
    rintro e w1 ⟨rfl, hb⟩
    have hk := hk.next hb
    clear hb
    go_wp2
    go_ret
    exact ⟨rfl, hk.b⟩
set_option maxHeartbeats 2000000 in
theorem gvalid_any (d s b m : Int) (w : World) : Calls Tryz.prog 62 #[.agg #[.int .i64 d, .int .i64 s, .int .i64 b, .int .i64 m]] w (Says (.int .i64 (if gridB d s b m = true then 0 else 3)) w) := by
  have cG := fun w => isGrid_any d s b m w
  unfold Says at cG ⊢
  generalize gridB d s b m = B at cG ⊢
  cases B with
  | true =>
    rw [if_pos rfl]
    have hk := K1.first w d s b m 24
    go_enter Tryz.func62, Tryz.ntmps62
    go_wp2_with fail
    refine (cG _).mono ?_
    rintro e w1 ⟨rfl, hb⟩
    have hk := hk.next hb
    clear hb
    go_wp2
    go_ret
    exact ⟨rfl, hk.b⟩
  | false =>
    rw [if_neg (by simp)]
    have hk := K1.first w d s b m 24
    go_enter Tryz.func62, Tryz.ntmps62
    go_wp2_with fail
    refine (cG _).mono ?_
    rintro e w1 ⟨rfl, hb⟩
    have hk := hk.next hb
    clear hb
    go_wp2
    go_ret
    exact ⟨rfl, hk.b⟩
theorem sound_no {k y t l : Int} (h : ¬ SoundP k y t l) : soundB k y t l = false := decide_eq_false h
theorem sound_yes {k y t l : Int} (h : SoundP k y t l) : soundB k y t l = true := decide_eq_true h
set_option maxHeartbeats 4000000 in
theorem sound_any (k y t l : Int) (ht : t ≤ 9223372036854775807) (w : World) : Calls Tryz.prog 101 #[.agg #[.int .i64 k, .int .i64 y, .int .i64 t, .int .i64 l]] w (Says (.bool (soundB k y t l)) w) := by
  have cV := fun w => valid_any k 20 w
  unfold Says
  cases hv : validM k 20 with
  | false =>
    rw [hv] at cV
    rw [sound_no (fun h => by have := h.1; rw [hv] at this; simp at this)]
    clear hv
    have hk := K1.first w k y t l 26
    go_enter Tryz.func101, Tryz.ntmps101
    go_wp2_with fail
    refine (cV _).mono ?_
    rintro e w1 ⟨rfl, q, hq⟩
    have hk := hk.next (show Below _ _ w1 by rw [hq]; exact below_drewN (Below.refl _ _) q)
    clear hq
    obtain ⟨⟨c0, c1, c2, c3, lt0⟩, lb⟩ := id hk
    go_wp2
    go_ret
    exact ⟨rfl, hk.b⟩
  | true =>
    rw [hv] at cV
    by_cases hy : 0 ≤ y ∧ y ≤ 6
    · have c11 := fun w => within_yes hy w
      by_cases h0 : 0 ≤ t
      · have e1 : IntKind.i64.wrap (24 - t) = 24 - t := IntWalk.i64_in _ (by omega)
        by_cases hl : 1 ≤ l ∧ l ≤ 24 - t
        · have c12 := fun w => within_yes hl w
          rw [sound_yes ⟨hv, hy, h0, hl.1, by omega⟩]
          clear hv hy hl
          have hk := K1.first w k y t l 26
          go_enter Tryz.func101, Tryz.ntmps101
          go_wp2_with fail
          refine (cV _).mono ?_
          rintro e w1 ⟨rfl, q, hq⟩
          have hk := hk.next (show Below _ _ w1 by rw [hq]; exact below_drewN (Below.refl _ _) q)
          clear hq
          obtain ⟨⟨c0, c1, c2, c3, lt0⟩, lb⟩ := id hk
          go_wp2_with fail
          refine (c11 _).mono ?_
          rintro e w1 ⟨rfl, rfl⟩
          go_wp2_with fail
          refine (c12 _).mono ?_
          rintro e w1 ⟨rfl, rfl⟩
          go_wp2
          go_ret
          exact ⟨rfl, hk.b⟩
        · have c12 := fun w => within_no hl w
          rw [sound_no (fun h => hl ⟨h.2.2.2.1, by have := h.2.2.2.2; omega⟩)]
          clear hv hy hl
          have hk := K1.first w k y t l 26
          go_enter Tryz.func101, Tryz.ntmps101
          go_wp2_with fail
          refine (cV _).mono ?_
          rintro e w1 ⟨rfl, q, hq⟩
          have hk := hk.next (show Below _ _ w1 by rw [hq]; exact below_drewN (Below.refl _ _) q)
          clear hq
          obtain ⟨⟨c0, c1, c2, c3, lt0⟩, lb⟩ := id hk
          go_wp2_with fail
          refine (c11 _).mono ?_
          rintro e w1 ⟨rfl, rfl⟩
          go_wp2_with fail
          refine (c12 _).mono ?_
          rintro e w1 ⟨rfl, rfl⟩
          go_wp2
          go_ret
          exact ⟨rfl, hk.b⟩
      · rw [sound_no (fun h => h0 h.2.2.1)]
        clear hv hy
        have hk := K1.first w k y t l 26
        go_enter Tryz.func101, Tryz.ntmps101
        go_wp2_with fail
        refine (cV _).mono ?_
        rintro e w1 ⟨rfl, q, hq⟩
        have hk := hk.next (show Below _ _ w1 by rw [hq]; exact below_drewN (Below.refl _ _) q)
        clear hq
        obtain ⟨⟨c0, c1, c2, c3, lt0⟩, lb⟩ := id hk
        go_wp2_with fail
        refine (c11 _).mono ?_
        rintro e w1 ⟨rfl, rfl⟩
        go_wp2
        go_ret
        exact ⟨rfl, hk.b⟩
    · have c11 := fun w => within_no hy w
      rw [sound_no (fun h => hy h.2.1)]
      clear hv hy
      have hk := K1.first w k y t l 26
      go_enter Tryz.func101, Tryz.ntmps101
      go_wp2_with fail
      refine (cV _).mono ?_
      rintro e w1 ⟨rfl, q, hq⟩
      have hk := hk.next (show Below _ _ w1 by rw [hq]; exact below_drewN (Below.refl _ _) q)
      clear hq
      obtain ⟨⟨c0, c1, c2, c3, lt0⟩, lb⟩ := id hk
      go_wp2_with fail
      refine (c11 _).mono ?_
      rintro e w1 ⟨rfl, rfl⟩
      go_wp2
      go_ret
      exact ⟨rfl, hk.b⟩
end Go.Proofs.YtnpfmoalgphkcaaGreatDoor
