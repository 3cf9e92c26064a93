/-
  The program's Parse. Conditions: the variables hold what their text lays; the string fits into memory.
-/
import Derived.Test.YtmmphjpakoimcaaDoorSplit
import Derived.Handy
import Derived.Laws.ResultCell
set_option linter.unusedVariables false
namespace Go.Proofs.YtmmphjpakoimcaaDoor
open Go Go.Proofs Go.RowKit Go.Lib
attribute [local go_sem] Oper.semAt_some

theorem splitL_mem : ∀ (l : Str) (p : Str), p ∈ splitL l → p.length ≤ l.length
  | [], p, h => by simp [splitL] at h; simp [h]
  | c :: s, p, h => by
    have ih := splitL_mem s
    simp only [splitL] at h
    split at h
    · rcases List.mem_cons.1 h with rfl | h
      · simp
      · have := ih p h; simp; omega
    · have hne := splitL_ne s
      obtain ⟨a, t, hat⟩ : ∃ a t, splitL s = a :: t := by cases hs : splitL s with | nil => exact absurd hs hne | cons a t => exact ⟨a, t, rfl⟩
      rw [hat] at h
      simp only [List.headD_cons, List.tail_cons] at h
      rcases List.mem_cons.1 h with rfl | h
      · have := ih a (by rw [hat]; exact .head _); simp; omega
      · have := ih p (by rw [hat]; exact .tail _ h); simp; omega
set_option maxHeartbeats 1000000 in
theorem splitSeq_any (s : ByteArray) (w : World) : Calls Tryd.prog 25 #[.string s, .string ⟨#[44]⟩] w fun e w' =>
    e = .returned (.func (.func 45) #[] #[.pointer (some ⟨w.heap.size + 1, 0, none⟩), .pointer (some ⟨w.heap.size, 0, none⟩), .pointer (some ⟨w.heap.size + 2, 0, none⟩)]) ∧
    w' = ((w.alloc (.cells #[.string s] 9)).alloc (.cells #[.string ⟨#[44]⟩] 9)).alloc (.cells #[.int .i64 0] 3) := by
  have c56 : Calls Tryd.prog 36 #[.string s, .string ⟨#[44]⟩, .int .i64 0] w fun e w' =>
      e = .returned (.func (.func 45) #[] #[.pointer (some ⟨w.heap.size + 1, 0, none⟩), .pointer (some ⟨w.heap.size, 0, none⟩), .pointer (some ⟨w.heap.size + 2, 0, none⟩)]) ∧
      w' = ((w.alloc (.cells #[.string s] 9)).alloc (.cells #[.string ⟨#[44]⟩] 9)).alloc (.cells #[.int .i64 0] 3) := by
    go_enter Tryd.func36, Tryd.ntmps36
    go_wp2
    go_ret
    exact ⟨rfl, rfl⟩
  go_enter Tryd.func25, Tryd.ntmps25
  go_wp2_with fail
  refine c56.mono ?_
  rintro e w' ⟨rfl, rfl⟩
  go_wp2
  go_ret
  exact ⟨rfl, rfl⟩

/-- Between two rounds. -/
structure LInv (N : Nat) (w : World) (n : Nat) (st : St) (W : World) : Prop where
  below : Below N w W
  size : N + 7 ≤ W.heap.size
  b0 : Boxed W N 3 (.int .i64 (n : Int))
  r1 : Boxed W (N + 1) 3 (.int .i64 0)
  r2 : Boxed W (N + 2) 22 (.int .i64 0)
  acc : Boxed W (N + 3) 3 (.int .i64 (((goP n st.1 0).1 : Nat) : Int))
  v1 : Boxed W (N + 4) 9 (.string st.2)
  v2 : Boxed W (N + 5) 9 (.string ⟨#[44]⟩)
  v3 : Boxed W (N + 6) 3 (.int .i64 0)
  ok : (goP n st.1 0).2 = 0
/-- A round has returned. -/
structure LErr (N : Nat) (w : World) (n : Nat) (s : Str) (W : World) : Prop where
  below : Below N w W
  out : ∃ e : Int, (goP n (splitL s) 0).2 = e ∧ e ≠ 0 ∧ Boxed W (N + 1) 3 (.int .i64 0) ∧ Boxed W (N + 2) 22 (.int .i64 e)
theorem LInv.kept {N n : Nat} {w : World} {st : St} {W W' : World} {row : Option Nat} (h : LInv N w n st W) (hN : N ≤ w.heap.size) (hg : W.grownBy W' row) (hr : ∀ r, row = some r → N + 7 ≤ r) : LInv N w n st W' := by
  have hne : ∀ B, B < N + 7 → some B ≠ row := fun B hB e => by have := hr B e.symm; omega
  have hs := h.below.size
  exact ⟨h.below.grown hg (by omega) (fun k e => by have := hr k e; omega), Nat.le_trans h.size hg.size, h.b0.kept hg (hne _ (by omega)), h.r1.kept hg (hne _ (by omega)), h.r2.kept hg (hne _ (by omega)), h.acc.kept hg (hne _ (by omega)),
    h.v1.kept hg (hne _ (by omega)), h.v2.kept hg (hne _ (by omega)), h.v3.kept hg (hne _ (by omega)), h.ok⟩
theorem LInv.own {N B n : Nat} {w : World} (hN : N ≤ w.heap.size) (hB : N + 7 ≤ B) : OwnFrom B (LInv N w n) := by
  intro st W W' row h hg hr
  exact h.kept hN hg (fun r e => by have := (hr r e).1; omega)
theorem LErr.own {N B n : Nat} {w : World} {s : Str} (hN : N ≤ w.heap.size) (hB : N + 7 ≤ B) : OwnFrom B (fun (_ : Unit) W => LErr N w n s W) := by
  rintro _ W W' row ⟨hb, e, he, h0, h1, h2⟩ hg hr
  have hne : ∀ B, B < N + 7 → some B ≠ row := fun B' hB' e => by have := (hr B' e.symm).1; omega
  have hs := hb.size
  exact ⟨hb.grown hg (by omega) (fun k e => by have := (hr k e).1; omega), e, he, h0, h1.kept hg (hne _ (by omega)), h2.kept hg (hne _ (by omega))⟩
theorem LInv.turn {N n : Nat} {w : World} {st : St} {W : World} (h : LInv N w n st W) (hN : N ≤ w.heap.size) (r : ByteArray) : LInv N w n (st.1, r) (W.setCell ⟨N + 4, 0, none⟩ (.string r)) := by
  have hg := grownBy_setCell' W (N + 4) (.string r)
  have hne : ∀ B, B ≠ N + 4 → some B ≠ some (N + 4) := fun B hB e => hB (by injection e)
  have hs := h.below.size
  exact ⟨h.below.grown hg (by omega) (fun k e => by injection e; omega), Nat.le_trans h.size hg.size, h.b0.kept hg (hne _ (by omega)), h.r1.kept hg (hne _ (by omega)), h.r2.kept hg (hne _ (by omega)), h.acc.kept hg (hne _ (by omega)), h.v1.set _, h.v2.kept hg (hne _ (by omega)), h.v3.kept hg (hne _ (by omega)), h.ok⟩
theorem LInv.vars {N n : Nat} {w : World} {st : St} {W : World} (h : LInv N w n st W) : SplitVars (N + 4) st.2 W := ⟨h.v1.cell, h.v1.frozen, h.v2.cell, h.v3.cell⟩
theorem results_cc {fn : Func} {p u : Tmp} {A B : TypeId} (h : fn.results = #[.cell p A, .cell u B]) (tmps : Array Value) (P : Program) (w : World) (a b : Addr) (va vb : Value)
    (ha : tmps.getD p undef = .pointer (some a)) (hb : tmps.getD u undef = .pointer (some b))
    (hla : (loadVar A a).run P w = .ok va w) (hlb : (loadVar B b).run P w = .ok vb w) : (results fn tmps).run P w = .ok (.tuple #[va, vb]) w := by
  rw [Array.getD_eq_getD_getElem?] at ha hb
  simp only [results, h]
  simp [Result.andThen, ha, hb, hla, hlb, asAddr]
theorem load3 {w : World} {k : Nat} {x : Value} (h0 : w.cell? ⟨k, 0, none⟩ = some x) : (loadVar 3 ⟨k, 0, none⟩).run Tryd.prog w = .ok x w := by
  simp [loadVar, go_sem, h0]
theorem loadE {w : World} {k : Nat} {x : Value} (h0 : w.cell? ⟨k, 0, none⟩ = some x) : (loadVar 22 ⟨k, 0, none⟩).run Tryd.prog w = .ok x w := by
  simp [loadVar, go_sem, h0]
theorem Boxed.under {W W2 : World} {B : Nat} {t : TypeId} {v : Value} (h : Boxed W B t v) (hb : Below W.heap.size W W2) : Boxed W2 B t v := (hb.block _ h.lt).trans h
theorem keeps_below {W W2 : World} (hb : Below W.heap.size W W2) : KeepsOthers W W2 := ⟨hb.size, fun k o hk _ => (hb.block k (Array.getElem?_eq_some_iff.1 hk).1).trans hk⟩
theorem LInv.under {N n : Nat} {w : World} {st : St} {W W2 : World} (h : LInv N w n st W) (hN : N ≤ w.heap.size) (hb : Below W.heap.size W W2) : LInv N w n st W2 := by
  have hs := h.size
  exact ⟨h.below.trans (hb.mono (by omega)), Nat.le_trans h.size hb.size, Boxed.under h.b0 hb, Boxed.under h.r1 hb, Boxed.under h.r2 hb, Boxed.under h.acc hb, Boxed.under h.v1 hb, Boxed.under h.v2 hb, Boxed.under h.v3 hb, h.ok⟩
/-- A round has gone on. -/
theorem LInv.step {N n : Nat} {w : World} {pre : List Str} {r : ByteArray} {W : World} {x : Str} {v : Nat} (h : LInv N w n (pre, r) W) (hN : N ≤ w.heap.size) (hx : goP n (pre ++ [x]) 0 = (v, 0)) :
    LInv N w n (pre ++ [x], r) (W.setCell ⟨N + 3, 0, none⟩ (.int .i64 (v : Int))) := by
  have hg := grownBy_setCell' W (N + 3) (.int .i64 (v : Int))
  have hne : ∀ B, B ≠ N + 3 → some B ≠ some (N + 3) := fun B hB e => hB (by injection e)
  have hs := h.below.size
  refine ⟨h.below.grown hg (by omega) (fun k e => by injection e; omega), Nat.le_trans h.size hg.size, h.b0.kept hg (hne _ (by omega)), h.r1.kept hg (hne _ (by omega)), h.r2.kept hg (hne _ (by omega)), ?_, h.v1.kept hg (hne _ (by omega)), h.v2.kept hg (hne _ (by omega)), h.v3.kept hg (hne _ (by omega)), by rw [hx]⟩
  rw [hx]
  exact h.acc.set _
theorem box_at {W : World} {n : Nat} (h : W.heap.size = n) (t : TypeId) (v : Value) : Boxed (W.alloc (.cells #[v] t)) n t v := by subst h; exact Boxed.new W t v
/-- Both results stored, the mark taken. -/
theorem parse_end {N D : Nat} {W : World} {u0 u1 v e : Value} (h1 : Boxed W (N + 1) 3 u0) (h2 : Boxed W (N + 2) 22 u1) (hD : N + 7 ≤ D) (hK : W.heap[D]? = some (.deferred (some []))) :
    ((W.setCell ⟨N + 1, 0, none⟩ v).setCell ⟨N + 2, 0, none⟩ e).heap[D]? = some (.deferred (some [])) ∧
    Boxed (((W.setCell ⟨N + 1, 0, none⟩ v).setCell ⟨N + 2, 0, none⟩ e).putObj D (.deferred none)) (N + 1) 3 v ∧ Boxed (((W.setCell ⟨N + 1, 0, none⟩ v).setCell ⟨N + 2, 0, none⟩ e).putObj D (.deferred none)) (N + 2) 22 e ∧
    Below N W (((W.setCell ⟨N + 1, 0, none⟩ v).setCell ⟨N + 2, 0, none⟩ e).putObj D (.deferred none)) := by
  have hg1 := grownBy_setCell' W (N + 1) v
  have hg2 := grownBy_setCell' (W.setCell ⟨N + 1, 0, none⟩ v) (N + 2) e
  have hg3 := grownBy_putObj' ((W.setCell ⟨N + 1, 0, none⟩ v).setCell ⟨N + 2, 0, none⟩ e) D (.deferred none)
  have hne : ∀ a b : Nat, a ≠ b → some a ≠ some b := fun a b h e => h (by injection e)
  have hlt := h2.lt
  have k0 : ((W.setCell ⟨N + 1, 0, none⟩ v).setCell ⟨N + 2, 0, none⟩ e).heap[D]? = some (.deferred (some [])) := (KeepsOthers.setCell _ _ _).same D _ ((KeepsOthers.setCell W _ _).same D _ hK rfl) rfl
  refine ⟨k0, ((h1.set v).kept hg2 (hne _ _ (by omega))).kept hg3 (hne _ _ (by omega)), ((h2.kept hg1 (hne _ _ (by omega))).set e).kept hg3 (hne _ _ (by omega)), ?_⟩
  exact (((Below.refl N W).grown hg1 (by omega) (fun k e => by injection e; omega)).grown hg2 (by have := hg1.size; omega) (fun k e => by injection e; omega)).grown hg3 (by have := hg1.size; have := hg2.size; omega) (fun k e => by injection e; omega)

theorem goP_zero (n : Nat) : ∀ xs acc, (goP n xs acc).2 ≠ 0 → goP n xs acc = (0, (goP n xs acc).2)
  | [], acc, h => absurd rfl h
  | x :: xs, acc, h => by
    by_cases hx : (itemM x n).2 = 0
    · rw [goP_ok hx] at h ⊢
      exact goP_zero n xs _ h
    · rw [goP_err hx]
set_option maxHeartbeats 8000000 in
set_option maxRecDepth 100000 in
theorem parse_any (s : ByteArray) (hz : s.size ≤ 4611686018427387904) (N : Int) (w : World) (hE : Env w) : Calls Tryd.prog 8 #[.string s, .int .i64 N] w (ItemOut (parseM (lst s) N) w) := by
  have cL := isLength_any N
  refine (callsIn_wide (n := 9)).1 ?_
  refine callsIn_of_wp_marks Tryd.func8 rfl trivial ?_ rfl
  simp only [Tryd.ntmps8, List.size_toArray, List.length_cons, List.length_nil, Nat.reduceAdd, Nat.reduceSub, Array.replicate_succ, Array.replicate_zero, List.push_toArray, List.append_toArray, List.nil_append, List.cons_append]
  by_cases hN : 1 ≤ N ∧ N ≤ 20
  · obtain ⟨n, rfl⟩ := natN (show 0 ≤ N by omega)
    rw [show lenB (n : Int) = true from decide_eq_true hN] at cL
    have hM : parseM (lst s) (n : Int) = parseN (lst s) n := by
      unfold parseM
      rw [if_pos hN, Int.toNat_natCast]
    rw [hM]
    clear hM
    obtain ⟨R, hR⟩ : ∃ R, parseN (lst s) n = R := ⟨_, rfl⟩
    rw [hR]
    have HR := hid hR
    have hEv := hE.size
    clear hR
    gi_wp2_with fail
    refine ⟨trivial, ?_⟩
    refine (callsIn_wide.2 (cL _)).mono ?_
    rintro e w' ⟨rfl, rfl⟩
    gi_wp2_with fail
    refine ⟨trivial, ?_⟩
    refine (callsIn_wide.2 (splitSeq_any s _)).mono ?_
    rintro e w' ⟨rfl, rfl⟩
    gi_wp2
    obtain ⟨W0, hW0⟩ : ∃ W0, (((((((w.alloc (Obj.cells #[Value.int IntKind.i64 (n : Int)] 3)).alloc (Obj.cells #[Value.int IntKind.i64 0] 3)).alloc (Obj.cells #[Value.int IntKind.i64 0] 22)).alloc (Obj.cells #[Value.int IntKind.i64 0] 3)).alloc (Obj.cells #[Value.string s] 9)).alloc (Obj.cells #[Value.string { data := #[44] }] 9)).alloc (Obj.cells #[Value.int IntKind.i64 0] 3)) = W0 := ⟨_, rfl⟩
    rw [hW0]
    have hI0 : LInv w.heap.size w n ([], s) W0 := by
      rw [← hW0]
      exact ⟨(((((((Below.refl _ w).alloc (Nat.le_refl _) _).alloc (by simp) _).alloc (by simp; omega) _).alloc (by simp; omega) _).alloc (by simp; omega) _).alloc (by simp; omega) _).alloc (by simp; omega) _, by simp,
        ((((((box_at rfl 3 _).alloc _).alloc _).alloc _).alloc _).alloc _).alloc _, (((((box_at (by simp) 3 _).alloc _).alloc _).alloc _).alloc _).alloc _, ((((box_at (by simp) 22 _).alloc _).alloc _).alloc _).alloc _, (((box_at (by simp) 3 _).alloc _).alloc _).alloc _,
        ((box_at (by simp) 9 _).alloc _).alloc _, (box_at (by simp) 9 _).alloc _, box_at (by simp) 3 _, rfl⟩
    have hz0 : w.heap.size + 7 ≤ W0.heap.size := hI0.size
    clear hW0
    refine range_own (by omega) (gf := 45) (lb := #[.pointer (some ⟨w.heap.size + 4 + 1, 0, none⟩), .pointer (some ⟨w.heap.size + 4, 0, none⟩), .pointer (some ⟨w.heap.size + 4 + 2, 0, none⟩)]) rfl (enters_of Tryd.func45 (by kernel_rfl) rfl) (w.heap.size + 4) (by omega)
      (fun st x => ∃ rest, splitL (lst s) = st.1 ++ lst x :: rest) (fun st x => (st.1 ++ [lst x], st.2)) (fun st => st.1 = splitL (lst s)) (LInv w.heap.size w n) (LErr w.heap.size w n (lst s)) ([], s)
      (split_iter _ (w.heap.size + 4) s (by omega) _ (fun st W h => h.vars) (fun st r W h => h.turn (Nat.le_refl _) r)) rfl (LInv.own (Nat.le_refl _) hz0) (LErr.own (Nat.le_refl _) hz0) hI0
      (fun x => { tmps := #[.string s, .int .i64 (n : Int), undef, .pointer (some ⟨w.heap.size, 0, none⟩), .pointer (some ⟨w.heap.size + 1, 0, none⟩), .pointer (some ⟨w.heap.size + 1 + 1, 0, none⟩), .pointer (some ⟨w.heap.size + 1 + 1 + 1, 0, none⟩), .string x, undef, undef, .int .i64 (n : Int), .bool true, .bool false, .string s,
        .func (.func 45) #[] #[.pointer (some ⟨w.heap.size + 1 + 1 + 1 + 1 + 1, 0, none⟩), .pointer (some ⟨w.heap.size + 1 + 1 + 1 + 1, 0, none⟩), .pointer (some ⟨w.heap.size + 1 + 1 + 1 + 1 + 2, 0, none⟩)],
        .string x, undef, undef, undef, undef, undef, undef, undef, undef, undef, undef, undef, undef, undef, undef, undef], defers := [] }) ?assign ?body ?done ?stop
    case assign =>
      intro l x W K hK
      gi_wp2
      exact hK
    case body =>
      rintro l ⟨pre, r⟩ x W hI ⟨rest, hrest⟩
      have hok := hI.ok
      dsimp only at hok hrest ⊢
      have hxs : x.size ≤ 4611686018427387904 := by
        have := splitL_mem (lst s) (lst x) (by rw [hrest]; simp)
        rw [show (lst x).length = x.size from (Lib.size_eq x).symm, show (lst s).length = s.size from (Lib.size_eq s).symm] at this
        omega
      obtain ⟨acc, hacc⟩ : ∃ acc, (goP n pre 0).1 = acc := ⟨_, rfl⟩
      have hgo : ∀ qs, goP n (pre ++ qs) 0 = goP n qs acc := fun qs => by rw [goP_app _ _ _ _ hok, hacc]
      have hal : acc < 2 ^ n := by rw [← hacc]; exact goP_lt n pre 0 (Nat.two_pow_pos n)
      have hEW : Env W := hE.below hI.below (by omega)
      have cP := readItem_any x hxs n (by omega) (by omega) W hEW
      obtain ⟨⟨iv, ie⟩, hR⟩ : ∃ R, itemM (lst x) n = R := ⟨_, rfl⟩
      have hil : iv < 2 ^ n := by have := item_lt (lst x) n; rw [hR] at this; exact this
      have hpN : 2 ^ n ≤ 1048576 := pow_le (show n ≤ 20 by omega)
      have hor := bw_or acc iv (by omega) (by omega)
      rw [hR] at cP
      unfold ItemOut at cP
      dsimp only at cP
      have hb0 := hI.b0.cell
      have HI := hid hI
      have HGo := hid hgo
      have HR1 := hid hR
      clear hgo hok hEW hI hR hil
      by_cases h2 : ie = 0
      · subst h2
        have hG : Hid (goP n (pre ++ [lst x]) 0 = (acc ||| iv, 0)) := hid (by rw [HGo.out, goP_ok (by rw [HR1.out]), HR1.out]; rfl)
        obtain ⟨O, hO⟩ : ∃ O, acc ||| iv = O := ⟨_, rfl⟩
        rw [hO] at hor hG
        clear hO
        gi_wp2_with fail
        refine ⟨trivial, ?_⟩
        refine (CallsIn.inRound l (callsIn_wide.2 cP)).mono ?_
        rintro e W2 ⟨rfl, hb2⟩
        have hI2 := HI.out.under (Nat.le_refl _) hb2
        have ha2 := hI2.acc
        dsimp only at ha2
        rw [hacc] at ha2
        have g1 := ha2.cell
        have g2 := ha2.frozen
        have HI2 := hid hI2
        have HB2 := hid hb2
        clear hI2 hb2 ha2
        gi_wp2
        exact ⟨((keeps_below HB2.out).trans (KeepsOthers.setCell _ _ _)).from _, HI2.out.step (Nat.le_refl _) hG.out⟩
      · have hG : Hid (goP n (splitL (lst s)) 0 = (0, ie)) := hid (by rw [hrest, HGo.out, goP_err (by rw [HR1.out]; exact h2), HR1.out])
        have hne : (ie != 0) = true := by simpa using h2
        clear hor
        gi_wp2_with fail
        refine ⟨trivial, ?_⟩
        refine (CallsIn.inRound l (callsIn_wide.2 cP)).mono ?_
        rintro e W2 ⟨rfl, hb2⟩
        have hI2 := HI.out.under (Nat.le_refl _) hb2
        have k1 := hI2.r1
        have k2 := hI2.r2
        have f1 := k1.frozen
        have f2 := k2.frozen
        have g1 := k1.cell
        have g2 := k2.cell
        gi_wp2
        have q1 := grownBy_setCell' W2 (w.heap.size + 1) (.int .i64 0)
        have q2 := grownBy_setCell' (W2.setCell ⟨w.heap.size + 1, 0, none⟩ (.int .i64 0)) (w.heap.size + 2) (.int .i64 ie)
        have hne' : ∀ a b : Nat, a ≠ b → some a ≠ some b := fun a b h e => h (by injection e)
        refine ⟨(((keeps_below hb2).trans (KeepsOthers.setCell _ _ _)).trans (KeepsOthers.setCell _ _ _)).from _, ⟨?_, ie, by rw [hG.out], h2, (k1.set _).kept q2 (hne' _ _ (by omega)), (k2.kept q1 (hne' _ _ (by omega))).set _⟩⟩
        have hz2 := hI2.size
        exact (hI2.below.grown q1 (by omega) (fun k e => by injection e; omega)).grown q2 (by have := q1.size; omega) (fun k e => by injection e; omega)
    case done =>
      rintro D ⟨pre, r⟩ W hD hfin hI hK
      have hok := hI.ok
      have hacc := hI.acc
      dsimp only at hfin hok hacc
      rw [hfin] at hok hacc
      have f1 := hI.r1.frozen
      have f2 := hI.r2.frozen
      have g1 := hI.r1.cell
      have g2 := hI.r2.cell
      have hBelow := hI.below
      obtain ⟨acc, ha⟩ : ∃ acc, (goP n (splitL (lst s)) 0).1 = acc := ⟨_, rfl⟩
      have hr := parseN_of HR.out (show goP n (splitL (lst s)) 0 = (acc, 0) by rw [← ha, ← hok])
      rw [ha] at hacc
      have g3 := hacc.cell
      by_cases h0 : acc = 0
      · subst h0
        obtain rfl : R = (0, 16) := by rw [hr, if_pos rfl]
        clear hr ha
        gi_wp2
        obtain ⟨k0, k1, k2, k3⟩ := parse_end (v := .int .i64 0) (e := .int .i64 16) hI.r1 hI.r2 (D := D) (by omega) hK
        refine ⟨by simp, .inl ⟨_, _, rfl, run_takeDeferred k0, ?_⟩⟩
        exact ⟨_, results_cc rfl _ _ _ _ _ _ _ rfl rfl (load3 k1.cell) (loadE k2.cell), rfl, hBelow.trans k3⟩
      · obtain rfl : R = (acc, 0) := by rw [hr, if_neg h0]
        have hz0 : ((acc : Int) == 0) = false := by simpa using h0
        clear hr ha
        gi_wp2
        obtain ⟨k0, k1, k2, k3⟩ := parse_end (v := .int .i64 (acc : Int)) (e := .int .i64 0) hI.r1 hI.r2 (D := D) (by omega) hK
        refine ⟨by simp, .inl ⟨_, _, rfl, run_takeDeferred k0, ?_⟩⟩
        exact ⟨_, results_cc rfl _ _ _ _ _ _ _ rfl rfl (load3 k1.cell) (loadE k2.cell), rfl, hBelow.trans k3⟩
    case stop =>
      rintro D W hD ⟨hb, e, he, hne0, h1, h2⟩ hK
      have hg0 : goP n (splitL (lst s)) 0 = (0, e) := by
        have := goP_zero n (splitL (lst s)) 0 (by rw [he]; exact hne0)
        rw [← he, ← this]
      obtain rfl := parseN_err HR.out hg0 hne0
      have hg3 := grownBy_putObj' W D (.deferred none)
      have hne' : ∀ a b : Nat, a ≠ b → some a ≠ some b := fun a b h e => h (by injection e)
      gi_wp2
      refine ⟨by simp, .inl ⟨_, _, rfl, run_takeDeferred hK, ?_⟩⟩
      exact ⟨_, results_cc rfl _ _ _ _ _ _ _ rfl rfl (load3 (h1.kept hg3 (hne' _ _ (by omega))).cell) (loadE (h2.kept hg3 (hne' _ _ (by omega))).cell), rfl, hb.grown hg3 hb.size (fun k e => by injection e; omega)⟩
  · rw [show lenB N = false from decide_eq_false hN] at cL
    have hM : parseM (lst s) N = (0, 3) := if_neg hN
    rw [hM]
    gi_wp2_with fail
    refine ⟨trivial, ?_⟩
    refine (callsIn_wide.2 (cL _)).mono ?_
    rintro e w' ⟨rfl, rfl⟩
    gi_wp2
    refine ⟨_, results_cc rfl _ _ _ _ _ _ _ rfl rfl (load3 (x := .int .i64 0) ?_) (loadE (x := .int .i64 3) ?_), rfl, (((Below.refl _ w).alloc (Nat.le_refl _) _).alloc (by simp) _).alloc (by simp; omega) _⟩
    · exact Boxed.cell ((box_at (by simp) 3 _).alloc _)
    · exact Boxed.cell (box_at (by simp) 22 _)
end Go.Proofs.YtmmphjpakoimcaaDoor
