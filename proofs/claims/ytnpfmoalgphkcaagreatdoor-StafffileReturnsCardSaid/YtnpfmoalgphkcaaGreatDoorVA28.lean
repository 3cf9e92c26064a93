/-
  What holds while a list of times is read part by part; the text of such a list. Conditions: as stated.
  Reading a list of times: readTimes of the program. Conditions: the variables hold what their text lays; the text is below 2^32 bytes.
  What holds while entries are read out of records. Conditions: as stated.
  What holds while lecturers are read out of records. Conditions: as stated.
-/
import Derived.Test.YtnpfmoalgphkcaaGreatDoorVA20
import Derived.Test.YtnpfmoalgphkcaaGreatDoorVA17
import Derived.Test.YtnpfmoalgphkcaaGreatDoorVA09
import Derived.Test.YtnpfmoalgphkcaaGreatDoorVA18
import Derived.Test.YtnpfmoalgphkcaaGreatDoorVA27
set_option linter.unusedVariables false
namespace Go.Proofs.YtnpfmoalgphkcaaGreatDoor
open Go Go.Proofs Go.RowKit Go.Lib

theorem splitL_len : ∀ l : Str, (S3.splitL l).length ≤ l.length + 1
  | [] => by simp [S3.splitL]
  | c :: r => by
    have ih := splitL_len r
    unfold S3.splitL
    split
    · simp; omega
    · simp
      omega
theorem readT_start (d s : Int) (n : Nat) (x : Str) (k : Nat) : (readT d s n x k).1.2.2.1 ≤ 9223372036854775807 := by
  have h : fromN (wSlots x) < 100 := smallN_lt _
  unfold readT
  split
  · split
    · show (fromN (wSlots x) : Int) - 1 ≤ _
      omega
    · show (0 : Int) ≤ _
      omega
  · show (0 : Int) ≤ _
    omega
theorem timeM_start (d s b m n : Int) (x : Str) : (timeM d s b m n x).1.2.2.1 ≤ 9223372036854775807 := by
  have z : (0 : Int) ≤ 9223372036854775807 := by omega
  unfold timeM
  split
  · unfold bodyT
    split
    · split
      · exact readT_start _ _ _ _ _
      · exact z
    · exact z
  · exact z
/-- Between two rounds. -/
structure TInv (N : Nat) (w : World) (d s b m n : Int) (st : S3.St) (W : World) : Prop where
  below : Below N w W
  size : N + 8 ≤ W.heap.size
  g : W.heap[N]? = some (.cells #[.int .i64 d, .int .i64 s, .int .i64 b, .int .i64 m] 24 (0, 0))
  n1 : Boxed W (N + 1) 3 (.int .i64 n)
  r1 : Boxed W (N + 2) 32 (.slice none 0 0)
  r2 : Boxed W (N + 3) 28 (.int .i64 0)
  acc : ∃ v, Boxed W (N + 4) 32 v ∧ TimeRow W (N + 8) v (tgo d s b m n st.1 []).1
  v1 : Boxed W (N + 5) 9 (.string st.2)
  v2 : Boxed W (N + 6) 9 (.string ⟨#[59]⟩)
  v3 : Boxed W (N + 7) 3 (.int .i64 0)
  ok : (tgo d s b m n st.1 []).2 = 0
/-- A round has returned. -/
structure TErr (N : Nat) (w : World) (d s b m n : Int) (x : Str) (W : World) : Prop where
  below : Below N w W
  out : ∃ e : Int, (tgo d s b m n (S3.splitL x) []).2 = e ∧ e ≠ 0 ∧ Boxed W (N + 2) 32 (.slice none 0 0) ∧ Boxed W (N + 3) 28 (.int .i64 e)
section
variable {N : Nat} {w : World} {d s b m n : Int}
theorem TInv.kept {st : S3.St} {W W' : World} {row : Option Nat} (h : TInv N w d s b m n st W) (hN : N ≤ w.heap.size) (hg : W.grownBy W' row) (hr : ∀ r, row = some r → N + 8 ≤ r) (hrow : ∀ v, Boxed W (N + 4) 32 v → TimeRow W (N + 8) v (tgo d s b m n st.1 []).1 → v.ownBlock = none ∨ v.ownBlock ≠ row) : TInv N w d s b m n st W' := by
  have hne : ∀ B, B < N + 8 → some B ≠ row := fun B hB e => by have := hr B e.symm; omega
  obtain ⟨v, hv, hw⟩ := h.acc
  have hs := h.below.size
  have hz := h.size
  exact ⟨h.below.grown hg (by omega) (fun k e => by have := hr k e; omega), Nat.le_trans h.size hg.size, (hg.block N (by omega) (hne _ (by omega))).trans h.g, h.n1.kept hg (hne _ (by omega)), h.r1.kept hg (hne _ (by omega)), h.r2.kept hg (hne _ (by omega)),
    ⟨v, hv.kept hg (hne _ (by omega)), World.ownsRow.kept hw hg (hrow v hv hw)⟩, h.v1.kept hg (hne _ (by omega)), h.v2.kept hg (hne _ (by omega)), h.v3.kept hg (hne _ (by omega)), h.ok⟩
theorem TInv.own {B : Nat} (hN : N ≤ w.heap.size) (hB : N + 8 ≤ B) : OwnFrom B (TInv N w d s b m n) := by
  intro st W W' row h hg hr
  refine h.kept hN hg (fun r e => by have := (hr r e).1; omega) (fun v hv hw => ?_)
  rcases hw.2 with ⟨rfl, _⟩ | ⟨g, cap, cur, rfl, _, hgb, _⟩
  · exact .inl rfl
  · refine .inr fun e' => ?_
    obtain ⟨_, o, ho, hc⟩ := hr g (by simpa [Value.ownBlock] using e'.symm)
    rw [hgb] at ho; cases ho; cases hc
theorem TErr.own {B : Nat} {x : Str} (hN : N ≤ w.heap.size) (hB : N + 8 ≤ B) : OwnFrom B (fun (_ : Unit) W => TErr N w d s b m n x W) := by
  rintro _ W W' row ⟨hb, e, he, h0, h1, h2⟩ hg hr
  have hne : ∀ B, B < N + 8 → some B ≠ row := fun B' hB' e => by have := (hr B' e.symm).1; omega
  have hs := hb.size
  exact ⟨hb.grown hg (by omega) (fun k e => by have := (hr k e).1; omega), e, he, h0, h1.kept hg (hne _ (by omega)), h2.kept hg (hne _ (by omega))⟩
theorem TInv.turn {st : S3.St} {W : World} (h : TInv N w d s b m n st W) (hN : N ≤ w.heap.size) (r : ByteArray) : TInv N w d s b m n (st.1, r) (W.setCell ⟨N + 5, 0, none⟩ (.string r)) := by
  have hg := grownBy_setCell' W (N + 5) (.string r)
  have hne : ∀ B, B ≠ N + 5 → some B ≠ some (N + 5) := fun B hB e => hB (by injection e)
  obtain ⟨v, hv, hw⟩ := h.acc
  have hs := h.below.size
  have hz := h.size
  refine ⟨h.below.grown hg (by omega) (fun k e => by injection e; omega), Nat.le_trans h.size hg.size, (hg.block N (by omega) (hne _ (by omega))).trans h.g, h.n1.kept hg (hne _ (by omega)), h.r1.kept hg (hne _ (by omega)), h.r2.kept hg (hne _ (by omega)),
    ⟨v, hv.kept hg (hne _ (by omega)), World.ownsRow.kept hw hg ?_⟩, h.v1.set _, h.v2.kept hg (hne _ (by omega)), h.v3.kept hg (hne _ (by omega)), h.ok⟩
  refine .inr fun e => ?_
  have := World.ownsRow.lt hw _ e
  omega
theorem TInv.vars {st : S3.St} {W : World} (h : TInv N w d s b m n st W) : S3.SplitVars (N + 5) st.2 W := ⟨h.v1.cell, h.v1.frozen, h.v2.cell, h.v3.cell⟩
theorem row_kindT {w : World} {B e z k : Nat} {v : Value} {xs : List Value} (h : w.ownsRow B e z v k xs) (g : Nat) (hg : v.ownBlock = some g) : ∃ c, w.heap[g]? = some (.cells c e (0, 0)) := by
  rcases h.2 with ⟨rfl, _⟩ | ⟨g', cap, cur, rfl, _, hh, _⟩
  · simp [Value.ownBlock] at hg
  · simp only [Value.ownBlock, Option.some.injEq] at hg
    subst hg
    exact ⟨cur, hh⟩
/-- A round has gone on. -/
theorem TInv.step {pre : List Str} {r : ByteArray} {W W2 w3 : World} {v v' : Value} {L L' : List TimeD} {x : Str} (h : TInv N w d s b m n (pre, r) W) (hN : N ≤ w.heap.size) (hb : Below W.heap.size W W2) (hv : Boxed W (N + 4) 32 v)
    (hrow2 : TimeRow W2 (N + 8) v L) (hg : W2.grownBy w3 v.ownBlock) (hown : TimeRow w3 (N + 8) v' L') (hx : tgo d s b m n (pre ++ [x]) [] = (L', 0)) (B0 : Nat) :
    TInv N w d s b m n (pre ++ [x], r) (w3.setCell ⟨N + 4, 0, none⟩ v') ∧ KeepsFrom B0 W (w3.setCell ⟨N + 4, 0, none⟩ v') := by
  have hs := h.below.size
  have hlt := World.ownsRow.lt hrow2
  have hlt' := World.ownsRow.lt hown
  have hne : ∀ B, B < N + 8 → some B ≠ v.ownBlock := fun B hB e => by have := hlt B e.symm; omega
  have hg2 := grownBy_setCell' w3 (N + 4) v'
  have hne2 : ∀ B, B ≠ N + 4 → some B ≠ some (N + 4) := fun B hB e => hB (by injection e)
  have up : ∀ {B : Nat} {t : TypeId} {u : Value}, Boxed W B t u → B < N + 8 → B ≠ N + 4 → Boxed (w3.setCell ⟨N + 4, 0, none⟩ v') B t u := fun hu h6 h2 => ((S3.Boxed.under hu hb).kept hg (hne _ h6)).kept hg2 (hne2 _ h2)
  have hv3 : Boxed w3 (N + 4) 32 v := (S3.Boxed.under hv hb).kept hg (hne _ (by omega))
  have hsz := h.size
  have z2 := hb.size
  have z3 := hg.size
  have hb3 : Below N w (w3.setCell ⟨N + 4, 0, none⟩ v') := ((h.below.trans (hb.mono (by omega))).grown hg (by omega) (fun k hk => by have := hlt k hk; omega)).grown hg2 (by omega) (fun k e => by injection e; omega)
  refine ⟨⟨hb3, ?_, (hg2.block N (by omega) (hne2 _ (by omega))).trans ((hg.block N (by omega) (hne _ (by omega))).trans ((hb.block N (by omega)).trans h.g)), up h.n1 (by omega) (by omega), up h.r1 (by omega) (by omega), up h.r2 (by omega) (by omega), ⟨v', hv3.set v', ?_⟩, up h.v1 (by omega) (by omega), up h.v2 (by omega) (by omega), up h.v3 (by omega) (by omega), by rw [hx]⟩, ?_⟩
  · have := hg2.size; omega
  · rw [hx]
    exact World.ownsRow.kept hown hg2 (.inr fun e => by have := hlt' _ e; omega)
  · refine (((S3.keeps_below hb).trans (KeepsOthers.of_grownBy hg fun j o ej hj => ?_)).trans (KeepsOthers.setCell _ _ _)).from _
    obtain ⟨c, hc⟩ := row_kindT hrow2 j ej
    rw [hc] at hj
    cases hj
    rfl
end
/-- Both results stored, the mark taken. -/
theorem times_end {N D : Nat} {W : World} {u0 u1 v e : Value} (h1 : Boxed W (N + 2) 32 u0) (h2 : Boxed W (N + 3) 28 u1) (hD : N + 8 ≤ D) (hK : W.heap[D]? = some (.deferred (some []))) :
    ((W.setCell ⟨N + 2, 0, none⟩ v).setCell ⟨N + 3, 0, none⟩ e).heap[D]? = some (.deferred (some [])) ∧
    Boxed (((W.setCell ⟨N + 2, 0, none⟩ v).setCell ⟨N + 3, 0, none⟩ e).putObj D (.deferred none)) (N + 2) 32 v ∧ Boxed (((W.setCell ⟨N + 2, 0, none⟩ v).setCell ⟨N + 3, 0, none⟩ e).putObj D (.deferred none)) (N + 3) 28 e ∧
    Below N W (((W.setCell ⟨N + 2, 0, none⟩ v).setCell ⟨N + 3, 0, none⟩ e).putObj D (.deferred none)) ∧
    (∀ u k xs, W.ownsRow (N + 8) 26 4 u k xs → (((W.setCell ⟨N + 2, 0, none⟩ v).setCell ⟨N + 3, 0, none⟩ e).putObj D (.deferred none)).ownsRow (N + 8) 26 4 u k xs) := by
  have hg1 := grownBy_setCell' W (N + 2) v
  have hg2 := grownBy_setCell' (W.setCell ⟨N + 2, 0, none⟩ v) (N + 3) e
  have hg3 := grownBy_putObj' ((W.setCell ⟨N + 2, 0, none⟩ v).setCell ⟨N + 3, 0, none⟩ e) D (.deferred none)
  have hne : ∀ a b : Nat, a ≠ b → some a ≠ some b := fun a b h e => h (by injection e)
  have hlt := h2.lt
  have k0 : ((W.setCell ⟨N + 2, 0, none⟩ v).setCell ⟨N + 3, 0, none⟩ e).heap[D]? = some (.deferred (some [])) := (KeepsOthers.setCell _ _ _).same D _ ((KeepsOthers.setCell W _ _).same D _ hK rfl) rfl
  refine ⟨k0, ((h1.set v).kept hg2 (hne _ _ (by omega))).kept hg3 (hne _ _ (by omega)), ((h2.kept hg1 (hne _ _ (by omega))).set e).kept hg3 (hne _ _ (by omega)), ?_, ?_⟩
  · exact (((Below.refl N W).grown hg1 (by omega) (fun k e => by injection e; omega)).grown hg2 (by have := hg1.size; omega) (fun k e => by injection e; omega)).grown hg3 (by have := hg1.size; have := hg2.size; omega) (fun k e => by injection e; omega)
  · intro u k xs h
    have := h.lt
    exact ownsRow_putObj (World.ownsRow.kept (World.ownsRow.kept h hg1 (.inr fun e => by have := this _ e; omega)) hg2 (.inr fun e => by have := this _ e; omega)) _ k0 rfl
end Go.Proofs.YtnpfmoalgphkcaaGreatDoor

set_option linter.unusedVariables false
namespace Go.Proofs.YtnpfmoalgphkcaaGreatDoor
open Go Go.Proofs Go.RowKit Go.Lib
attribute [local go_sem] Oper.semAt_some

/-- What readTimes hands back. -/
def TimesOut (r : List TimeD × Int) (w : World) (e : Ending) (w' : World) : Prop := (∃ v, e = .returned (.tuple #[v, .int .i64 r.2]) ∧ TimeRow w' w.heap.size v r.1) ∧ Below w.heap.size w w'
theorem timeRow_slice {w : World} {B : Nat} {v : Value} {l : List TimeD} (h : TimeRow w B v l) : ∃ A c, v = .slice A l.length c := by
  rcases h.2 with ⟨hv, h0⟩ | ⟨g, cap, cur, hv, _⟩
  · exact ⟨none, 0, by rw [hv, h0]⟩
  · exact ⟨_, cap, hv⟩
theorem TimeRow.mono {w : World} {B B' : Nat} {v : Value} {l : List TimeD} (h : TimeRow w B v l) (hB : B' ≤ B) : TimeRow w B' v l := by
  obtain ⟨h1, h2⟩ := h
  refine ⟨h1, ?_⟩
  rcases h2 with h2 | ⟨g, cap, cur, hv, hg, r⟩
  · exact .inl h2
  · exact .inr ⟨g, cap, cur, hv, Nat.le_trans hB hg, r⟩
theorem loadTimes {w : World} {k : Nat} {x : Value} (h0 : w.cell? ⟨k, 0, none⟩ = some x) : (loadVar 32 ⟨k, 0, none⟩).run Tryz.prog w = .ok x w := by
  simp [loadVar, go_sem, h0]
theorem four_new (w : World) (a b c d : Int) (T : TypeId) : ∀ (j : Nat) (u : Value), (timeVs (a, b, c, d))[j]? = some u → (w.alloc (.cells #[.int .i64 a, .int .i64 b, .int .i64 c, .int .i64 d] T)).cell? ((⟨w.heap.size, 0, none⟩ : Addr).add j) = some u := by
  intro j u h
  have k := Box4.new w a b c d T
  rw [Addr.add_lit]
  match j, h with
  | 0, h => exact k.c0.trans h
  | 1, h => exact k.c1.trans h
  | 2, h => exact k.c2.trans h
  | 3, h => exact k.c3.trans h
  | j + 4, h => simp [timeVs] at h
theorem times_one (t : TimeD) : ∀ u ∈ timeVs t, u.oneCell' = true := fun u hu => timeVals_one [t] u (by simpa [timeVals] using hu)
set_option maxHeartbeats 8000000 in
set_option maxRecDepth 100000 in
theorem readTimes_any (d s b m n : Int) (x : ByteArray) (hs : x.size < 4294967281) (w : World) (hE : Env7 w) :
    Calls Tryz.prog 72 #[.string x, .agg #[.int .i64 d, .int .i64 s, .int .i64 b, .int .i64 m], .int .i64 n] w (TimesOut (timesM d s b m n (lst x)) w) := by
  refine (callsIn_wide (n := 9)).1 ?_
  refine callsIn_of_wp_marks Tryz.func72 rfl trivial ?_ rfl
  simp only [Tryz.ntmps72, List.size_toArray, List.length_cons, List.length_nil, Nat.reduceAdd, Nat.reduceSub, Array.replicate_succ, Array.replicate_zero, List.push_toArray, List.append_toArray, List.nil_append, List.cons_append]
  by_cases h0 : 0 < x.size
  · obtain ⟨x1, x2, x3, x4⟩ := str_no h0
    have hne : lst x ≠ [] := fun e => by rw [Lib.size_eq, show x.data.toList = lst x from rfl, e] at h0; simp at h0
    gi_wp2_with fail
    refine ⟨trivial, ?_⟩
    refine (callsIn_wide.2 (S3.splitSeq_any x _)).mono ?_
    rintro e w' ⟨rfl, rfl⟩
    gi_wp2
    obtain ⟨W0, hW0⟩ : ∃ W0, ((((((((w.alloc (Obj.cells #[.int .i64 d, .int .i64 s, .int .i64 b, .int .i64 m] 24)).alloc (Obj.cells #[.int .i64 n] 3)).alloc (Obj.cells #[Value.slice none 0 0] 32)).alloc (Obj.cells #[Value.int IntKind.i64 0] 28)).alloc (Obj.cells #[Value.slice none 0 0] 32)).alloc (Obj.cells #[Value.string x] 9)).alloc (Obj.cells #[Value.string { data := #[59] }] 9)).alloc (Obj.cells #[Value.int IntKind.i64 0] 3)) = W0 := ⟨_, rfl⟩
    rw [hW0]
    have hI0 : TInv w.heap.size w d s b m n ([], x) W0 := by
      rw [← hW0]
      refine ⟨?_, by simp, ?_, ?_, ?_, ?_, ⟨.slice none 0 0, ?_, World.ownsRow_nil _ _ _ _⟩, ?_, ?_, ?_, rfl⟩
      rotate_left
      · have hb : Below (w.heap.size + 1) (w.alloc (Obj.cells #[.int .i64 d, .int .i64 s, .int .i64 b, .int .i64 m] 24)) _ := (((((((Below.refl _ _).alloc (by simp) (.cells #[.int .i64 n] 3)).alloc (by simp) (.cells #[.slice none 0 0] 32)).alloc (by simp) (.cells #[.int .i64 0] 28)).alloc (by simp) (.cells #[.slice none 0 0] 32)).alloc (by simp) (.cells #[.string x] 9)).alloc (by simp) (.cells #[.string ⟨#[59]⟩] 9)).alloc (by simp) (.cells #[.int .i64 0] 3)
        exact (hb.block _ (by omega)).trans (heap_alloc_new w _)
      rotate_right
      · exact ((((((((Below.refl _ w).alloc (Nat.le_refl _) _).alloc (by simp) _).alloc (by simp; omega) _).alloc (by simp; omega) _).alloc (by simp; omega) _).alloc (by simp; omega) _).alloc (by simp; omega) _).alloc (by simp; omega) _
      · exact ((((((S3.box_at (by simp) 3 _).alloc _).alloc _).alloc _).alloc _).alloc _).alloc _
      · exact (((((S3.box_at (by simp) 32 _).alloc _).alloc _).alloc _).alloc _).alloc _
      · exact ((((S3.box_at (by simp) 28 _).alloc _).alloc _).alloc _).alloc _
      · exact (((S3.box_at (by simp) 32 _).alloc _).alloc _).alloc _
      · exact ((S3.box_at (by simp) 9 _).alloc _).alloc _
      · exact (S3.box_at (by simp) 9 _).alloc _
      · exact S3.box_at (by simp) 3 _
    have hz0 : w.heap.size + 8 ≤ W0.heap.size := hI0.size
    have hEv := hE.e.size
    clear hW0
    refine S3.range_own (by omega) (gf := 125) (lb := #[.pointer (some ⟨w.heap.size + 5 + 1, 0, none⟩), .pointer (some ⟨w.heap.size + 5, 0, none⟩), .pointer (some ⟨w.heap.size + 5 + 2, 0, none⟩)]) rfl (enters_of Tryz.func125 (by kernel_rfl) rfl) (w.heap.size + 5) (by omega)
      (fun st y => ∃ rest, S3.splitL (lst x) = st.1 ++ lst y :: rest) (fun st y => (st.1 ++ [lst y], st.2)) (fun st => st.1 = S3.splitL (lst x)) (TInv w.heap.size w d s b m n) (TErr w.heap.size w d s b m n (lst x)) ([], x)
      (S3.split_iter _ (w.heap.size + 5) x (by omega) _ (fun st W h => h.vars) (fun st r W h => h.turn (Nat.le_refl _) r)) rfl (TInv.own (Nat.le_refl _) hz0) (TErr.own (Nat.le_refl _) hz0) hI0
      (fun y => { tmps := #[.string x, .agg #[.int .i64 d, .int .i64 s, .int .i64 b, .int .i64 m], .int .i64 n, undef, .pointer (some ⟨w.heap.size, 0, none⟩), .pointer (some ⟨w.heap.size + 1, 0, none⟩), .pointer (some ⟨w.heap.size + 1 + 1, 0, none⟩), .pointer (some ⟨w.heap.size + 1 + 1 + 1, 0, none⟩), .pointer (some ⟨w.heap.size + 1 + 1 + 1 + 1, 0, none⟩),
        .string y, undef, undef, .string x, .bool false, .string x, .func (.func 125) #[] #[.pointer (some ⟨w.heap.size + 1 + 1 + 1 + 1 + 1 + 1, 0, none⟩), .pointer (some ⟨w.heap.size + 1 + 1 + 1 + 1 + 1, 0, none⟩), .pointer (some ⟨w.heap.size + 1 + 1 + 1 + 1 + 1 + 2, 0, none⟩)],
        .string y, undef, undef, undef, undef, undef, undef, undef, undef, undef, undef, undef, undef, undef, undef, undef, undef, undef, undef], defers := [] }) ?assign ?body ?done ?stop
    case assign =>
      intro l y W K hK
      gi_wp2
      exact hK
    case body =>
      rintro l ⟨pre, r⟩ y W hI ⟨rest, hrest⟩
      obtain ⟨v, hv, hrow⟩ := hI.acc
      have hok := hI.ok
      dsimp only at hrow hok hrest ⊢
      have hxs : y.size < 4294967281 := by
        have := S3.splitL_mem (lst x) (lst y) (by rw [hrest]; simp)
        rw [show (lst y).length = y.size from (Lib.size_eq y).symm, show (lst x).length = x.size from (Lib.size_eq x).symm] at this
        omega
      obtain ⟨L, hL⟩ : ∃ L, (tgo d s b m n pre []).1 = L := ⟨_, rfl⟩
      have hgo : ∀ qs, tgo d s b m n (pre ++ qs) [] = tgo d s b m n qs L := fun qs => by rw [tgo_app d s b m n _ _ _ hok, hL]
      have hlen : L.length = pre.length := by rw [← hL, tgo_len d s b m n pre [] hok]; simp
      have hpl : pre.length ≤ 4294967281 := by
        have h1 := splitL_len (lst x)
        rw [hrest, List.length_append, show (lst x).length = x.size from (Lib.size_eq x).symm] at h1
        omega
      rw [hL] at hrow
      have hB := hI.below
      have hEW : Env7 W := hE.below hB (Nat.le_refl _)
      have cP := tparse_any d s b m n y (by omega) W hEW.e hEW.d
      obtain ⟨⟨⟨t1, t2, t3, t4⟩, e2⟩, hR⟩ : ∃ R, timeM d s b m n (lst y) = R := ⟨_, rfl⟩
      rw [hR] at cP
      unfold TimeOut at cP
      dsimp only at cP
      have c0 : W.cell? ⟨w.heap.size, 0, none⟩ = some (.int .i64 d) := by rw [Lib.cell_of_heap hI.g]; rfl
      have c1 : W.cell? ⟨w.heap.size, 1, none⟩ = some (.int .i64 s) := by rw [Lib.cell_of_heap hI.g]; rfl
      have c2 : W.cell? ⟨w.heap.size, 2, none⟩ = some (.int .i64 b) := by rw [Lib.cell_of_heap hI.g]; rfl
      have c3 : W.cell? ⟨w.heap.size, 3, none⟩ = some (.int .i64 m) := by rw [Lib.cell_of_heap hI.g]; rfl
      have c4 := hI.n1.cell
      obtain ⟨A, c, hvA⟩ := timeRow_slice hrow
      subst hvA
      have HRow := hid hrow
      have HGo := hid hgo
      have HOk := hid hok
      have HLen := hid hlen
      have CP := hid cP
      clear hrow hgo hL hok hEW hlen cP
      by_cases h2 : e2 = 0
      · subst h2
        gi_wp2_with fail
        refine ⟨trivial, ?_⟩
        refine (CallsIn.inRound l (callsIn_wide.2 CP.out)).mono ?_
        rintro e W2 ⟨rfl, hb2⟩
        obtain ⟨o, ho⟩ : ∃ o, (Obj.cells #[.int .i64 t1, .int .i64 t2, .int .i64 t3, .int .i64 t4] 26) = o := ⟨_, rfl⟩
        have hv2 := (S3.Boxed.under hv hb2).alloc o
        have hB4 := Box4.new W2 t1 t2 t3 t4 26
        rw [ho] at hB4
        have hcell2 := hv2.cell
        have d0 := hB4.c0
        have d1 := hB4.c1
        have d2 := hB4.c2
        have d3 := hB4.c3
        have hsz6 : w.heap.size + 8 ≤ W2.heap.size := by have := hI.size; have := hb2.size; omega
        subst ho
        obtain ⟨i9, hi9, hz9, hsi9, hby9⟩ := info_parts infoTime
        obtain ⟨W4, hW4⟩ : ∃ W4, W4 = (W2.alloc (.cells #[.int .i64 t1, .int .i64 t2, .int .i64 t3, .int .i64 t4] 26)).alloc (.cells #[.int .i64 t1, .int .i64 t2, .int .i64 t3, .int .i64 t4] 26) := ⟨_, rfl⟩
        have hb4 : Below W.heap.size W W4 := hW4 ▸ ((hb2.alloc hb2.size _).alloc (by have := hb2.size; simp; omega) _)
        have hrow4 : TimeRow W4 (w.heap.size + 8) (.slice A L.length c) L := row_under HRow.out hb4
        have hv4 : Boxed W4 (w.heap.size + 4) 32 (.slice A L.length c) := S3.Boxed.under hv hb4
        have hsz4 : w.heap.size + 8 ≤ W4.heap.size := by have := hI.size; have := hb4.size; omega
        have hmx : L.length + 1 ≤ maxLen := by rw [HLen.out]; unfold maxLen; omega
        have hby : (L.length + 1) * 32 ≤ 140737488355328 := by rw [HLen.out]; omega
        have hn4 : ∀ (j : Nat) (u : Value), (timeVs (t1, t2, t3, t4))[j]? = some u → W4.cell? ((⟨W2.heap.size + 1, 0, none⟩ : Addr).add j) = some u := by
          have := four_new (W2.alloc (.cells #[.int .i64 t1, .int .i64 t2, .int .i64 t3, .int .i64 t4] 26)) t1 t2 t3 t4 26
          rw [hW4]
          simpa using this
        have HRow4 := hid hrow4
        have HMx := hid hmx
        have HBy := hid hby
        have H6 := hid hsz4
        have HN := hid hn4
        have HV4 := hid hv4
        have HB4 := hid hb4
        clear hrow4 hmx hby hsz4 hn4 hv4 hb4
        gi_wp2_with (gi_at_builtin; rw [← hW4]; refine wpListIn_append_own _ rfl _ _ 32 rfl (w.heap.size + 8) 26 i9 (.agg #[.int .i64 0, .int .i64 0, .int .i64 0, .int .i64 0]) 4 32 Tryz.underlying32 hi9 hz9 hsi9 hby9 rfl (by decide) _ L.length (timeVals L) rfl HRow4.out ⟨W2.heap.size + 1, 0, none⟩ 1 1 (timeVs (t1, t2, t3, t4)) rfl rfl HN.out (times_one _) HMx.out HBy.out H6.out ?_)
        intro v' w3 hown' hgrow _
        rw [← hW4] at hgrow
        obtain ⟨g', cap', rfl⟩ := ownsRow_succ (k := L.length) hown'
        have hv3 : Boxed w3 (w.heap.size + 4) 32 (.slice A L.length c) := HV4.out.kept hgrow (fun e => by have := World.ownsRow.lt HRow4.out _ e.symm; omega)
        have hcell3 := hv3.cell
        have hfz3 := hv3.frozen
        have hown2 : TimeRow w3 (w.heap.size + 8) (.slice (some ⟨g', 0, none⟩) (L.length + 1) cap') (L ++ [(t1, t2, t3, t4)]) := by
          unfold TimeRow
          rw [timeVals_app, List.length_append]
          simpa [timeVals] using hown'
        have HOW := hid hown2
        have HGW := hid hgrow
        clear hown' hown2 hgrow
        gi_wp2
        obtain ⟨i1, i2⟩ := TInv.step hI (Nat.le_refl _) HB4.out hv HRow4.out HGW.out HOW.out (x := lst y) (by rw [HGo.out]; simp [tgo, hR]) W0.heap.size
        exact ⟨i2, i1⟩
      · have hgo2 : tgo d s b m n (S3.splitL (lst x)) [] = ([], e2) := by rw [hrest, HGo.out]; simp [tgo, hR, h2]
        have HGo2 := hid hgo2
        clear hgo2
        gi_wp2_with fail
        refine ⟨trivial, ?_⟩
        refine (CallsIn.inRound l (callsIn_wide.2 CP.out)).mono ?_
        rintro e W2 ⟨rfl, hb2⟩
        have k1 := (S3.Boxed.under hI.r1 hb2).alloc (Obj.cells #[.int .i64 t1, .int .i64 t2, .int .i64 t3, .int .i64 t4] 26)
        have k2 := (S3.Boxed.under hI.r2 hb2).alloc (Obj.cells #[.int .i64 t1, .int .i64 t2, .int .i64 t3, .int .i64 t4] 26)
        have f1 := k1.frozen
        have f2 := k2.frozen
        have g1 := k1.cell
        have g2 := k2.cell
        gi_wp2
        have hb3 : Below W.heap.size W (W2.alloc (Obj.cells #[.int .i64 t1, .int .i64 t2, .int .i64 t3, .int .i64 t4] 26)) := hb2.alloc hb2.size _
        obtain ⟨W5, hW5⟩ : ∃ W5, W5 = W2.alloc (Obj.cells #[.int .i64 t1, .int .i64 t2, .int .i64 t3, .int .i64 t4] 26) := ⟨_, rfl⟩
        rw [← hW5] at hb3 k1 k2 ⊢
        clear hW5
        have q1 := grownBy_setCell' W5 (w.heap.size + 2) (.slice none 0 0)
        have q2 := grownBy_setCell' (W5.setCell ⟨w.heap.size + 2, 0, none⟩ (.slice none 0 0)) (w.heap.size + 3) (.int .i64 e2)
        have hne' : ∀ a b : Nat, a ≠ b → some a ≠ some b := fun a b h e => h (by injection e)
        refine ⟨(((S3.keeps_below hb3).trans (KeepsOthers.setCell _ _ _)).trans (KeepsOthers.setCell _ _ _)).from _, ⟨?_, e2, by rw [HGo2.out], h2, (k1.set _).kept q2 (hne' _ _ (by omega)), (k2.kept q1 (hne' _ _ (by omega))).set _⟩⟩
        have hz2 := hb3.size
        have hzW := hI.size
        exact ((hB.trans (hb3.mono (by omega))).grown q1 (by omega) (fun k e => by injection e; omega)).grown q2 (by have := q1.size; omega) (fun k e => by injection e; omega)
    case done =>
      rintro D ⟨pre, r⟩ W hD hfin hI hK
      obtain ⟨v, hv, hrow⟩ := hI.acc
      have hok := hI.ok
      dsimp only at hfin hrow hok
      rw [hfin] at hrow hok
      obtain ⟨A, c, hvA⟩ := timeRow_slice hrow
      subst hvA
      have hM : timesM d s b m n (lst x) = if 24 < (tgo d s b m n (S3.splitL (lst x)) []).1.length then ([], 2) else ((tgo d s b m n (S3.splitL (lst x)) []).1, 0) := by
        unfold timesM
        rw [if_neg hne, if_neg (by rw [hok]; simp)]
      obtain ⟨L, hL⟩ : ∃ L, (tgo d s b m n (S3.splitL (lst x)) []).1 = L := ⟨_, rfl⟩
      rw [hL] at hM hrow hv
      have hcell := hv.cell
      have f1 := hI.r1.frozen
      have f2 := hI.r2.frozen
      have g1 := hI.r1.cell
      have g2 := hI.r2.cell
      have hBelow := hI.below
      have HRow := hid hrow
      clear hrow hL hok
      by_cases hk : 24 < L.length
      · rw [if_pos hk] at hM
        have hk' : decide ((24 : Int) < (L.length : Int)) = true := decide_eq_true (by omega)
        gi_wp2
        obtain ⟨k0, k1, k2, k3, k4⟩ := times_end (v := .slice none 0 0) (e := .int .i64 2) hI.r1 hI.r2 (D := D) (by omega) hK
        refine ⟨by simp, .inl ⟨_, _, rfl, run_takeDeferred k0, ?_⟩⟩
        refine ⟨_, results_cc rfl _ _ _ _ _ _ _ rfl rfl (loadTimes k1.cell) (S3.loadErr k2.cell), ?_⟩
        rw [hM]
        exact ⟨⟨_, rfl, World.ownsRow_nil _ _ _ _⟩, hBelow.trans k3⟩
      · rw [if_neg hk] at hM
        have hk' : decide ((24 : Int) < (L.length : Int)) = false := decide_eq_false (by omega)
        gi_wp2
        obtain ⟨k0, k1, k2, k3, k4⟩ := times_end (v := .slice A L.length c) (e := .int .i64 0) hI.r1 hI.r2 (D := D) (by omega) hK
        refine ⟨by simp, .inl ⟨_, _, rfl, run_takeDeferred k0, ?_⟩⟩
        refine ⟨_, results_cc rfl _ _ _ _ _ _ _ rfl rfl (loadTimes k1.cell) (S3.loadErr k2.cell), ?_⟩
        rw [hM]
        exact ⟨⟨_, rfl, TimeRow.mono (k4 _ _ _ HRow.out) (by omega)⟩, hBelow.trans k3⟩
    case stop =>
      rintro D W hD ⟨hb, e, he, hne0, h1, h2⟩ hK
      have hM : timesM d s b m n (lst x) = ([], e) := by
        unfold timesM
        rw [if_neg hne, if_pos (by rw [he]; exact hne0), he]
      have hg3 := grownBy_putObj' W D (.deferred none)
      have hne' : ∀ a b : Nat, a ≠ b → some a ≠ some b := fun a b h e => h (by injection e)
      gi_wp2
      refine ⟨by simp, .inl ⟨_, _, rfl, run_takeDeferred hK, ?_⟩⟩
      refine ⟨_, results_cc rfl _ _ _ _ _ _ _ rfl rfl (loadTimes (h1.kept hg3 (hne' _ _ (by omega))).cell) (S3.loadErr (h2.kept hg3 (hne' _ _ (by omega))).cell), ?_⟩
      rw [hM]
      exact ⟨⟨_, rfl, World.ownsRow_nil _ _ _ _⟩, hb.grown hg3 hb.size (fun k e => by injection e; omega)⟩
  · obtain ⟨x1, x2, x3, x4⟩ := str_yes h0
    have hnil := lst_nil h0
    have hM : timesM d s b m n (lst x) = ([], 0) := by rw [hnil]; rfl
    gi_wp2
    refine ⟨_, results_cc rfl _ _ _ _ _ _ _ rfl rfl (loadTimes (x := .slice none 0 0) ?_) (S3.loadErr (x := .int .i64 0) ?_), ?_⟩
    · exact ((S3.box_at (by simp) 32 _).alloc _).cell
    · exact (S3.box_at (by simp) 28 _).cell
    · rw [hM]
      exact ⟨⟨_, rfl, World.ownsRow_nil _ _ _ _⟩, ((((Below.refl _ w).alloc (Nat.le_refl _) _).alloc (by simp) _).alloc (by simp; omega) _).alloc (by simp; omega) _⟩
end Go.Proofs.YtnpfmoalgphkcaaGreatDoor

set_option linter.unusedVariables false
namespace Go.Proofs.YtnpfmoalgphkcaaGreatDoor
open Go Go.Proofs Go.RowKit Go.Lib

theorem own_lt {W : World} {B e z n : Nat} {v : Value} {xs : List Value} (h : W.ownsRow B e z v n xs) : ∀ k, v.ownBlock = some k → B ≤ k ∧ k < W.heap.size := World.ownsRow.lt h
section
variable {M : Nat} {w W W' : World} {rs : List RoomD} {ps : List ProbD} {cs cs' : List Str} {v1 v2 : Value}
theorem kinds_ne {B B' e e' z z' n n' : Nat} {v v' : Value} {xs xs' : List Value} (h : W.ownsRow B e z v n xs) (h' : W.ownsRow B' e' z' v' n' xs') (hne : e ≠ e') : v.ownBlock = none ∨ v.ownBlock ≠ v'.ownBlock := by
  cases hv : v.ownBlock with
  | none => exact .inl rfl
  | some g =>
    refine .inr fun e0 => ?_
    obtain ⟨c, hc⟩ := row_kindT h g hv
    obtain ⟨c', hc'⟩ := row_kindT h' g e0.symm
    rw [hc] at hc'
    injection hc' with h1
    injection h1 with _ h2
    exact hne h2
end
theorem setF_code (d s b m n : Int) (K : Nat) (hK : 0 < K) (i : Nat) (x : Str) (r : RoomD) (hx : x.length < K) (hr : r.1.length < K) : (setF d s b m n i x r).1.1.length < K := by
  match i with
  | 0 => simp only [setF]; split <;> simp_all
  | 1 => simp only [setF]; split <;> simp_all
  | 2 => exact hr
  | 3 => exact hr
  | 4 => exact hr
  | j + 5 => exact hr
theorem efold_code (d s b m n : Int) (K : Nat) (hK : 0 < K) : ∀ (fs : List FieldD) (i : Nat) (r : RoomD), (∀ f ∈ fs, f.1.length < K) → r.1.length < K → (efold d s b m n fs i r).1.1.length < K
  | [], _, r, _, hr => hr
  | f :: fs, i, r, h, hr => by
    unfold efold
    have h1 := setF_code d s b m n K hK i f.1 r (h f (by simp)) hr
    split
    · exact h1
    · exact efold_code d s b m n K hK fs (i + 1) _ (fun g hg => h g (by simp [hg])) h1
theorem entryM_code (d s b m n : Int) (K : Nat) (hK : 0 < K) (fs : List FieldD) (h : ∀ f ∈ fs, f.1.length < K) : (entryM d s b m n fs).1.1.length < K := by
  unfold entryM
  split
  · exact hK
  · exact efold_code d s b m n K hK fs 0 zeroR h hK
end Go.Proofs.YtnpfmoalgphkcaaGreatDoor

set_option linter.unusedVariables false
namespace Go.Proofs.YtnpfmoalgphkcaaGreatDoor.S9
open Go Go.Proofs Go.RowKit Go.Lib Go.Proofs.YtnpfmoalgphkcaaGreatDoor

structure EInv (M : Nat) (w : World) (rs : List LectD) (ps : List ProbD) (cs : List Str) (v1 v2 : Value) (W : World) : Prop where
  row : ∃ Lr : List (LectD × LectA), Lr.map (·.1) = rs ∧ W.ownsRow w.heap.size 34 2 v1 Lr.length (lectVals Lr) ∧ ∀ p ∈ Lr, LectIn W (fun k => w.heap.size ≤ k ∧ k < W.heap.size ∧ some k ≠ v1.ownBlock ∧ some k ≠ v2.ownBlock) p.1 p.2
  probs : ProbsRow W w.heap.size v2 ps
  map : KMap W M cs
  gr : w.grownBy W (some M)
theorem EInv.start {M : Nat} {w : World} (h : KMap w M []) : EInv M w [] [] [] (.slice none 0 0) (.slice none 0 0) w :=
  ⟨⟨[], rfl, World.ownsRow_nil _ _ _ _, fun p hp => by simp at hp⟩, World.ownsRow_nil _ _ _ _, h, grown_none (below_grown (Below.refl _ w) (Nat.le_refl _))⟩
theorem EInv.below {M : Nat} {w W : World} {rs : List LectD} {ps : List ProbD} {cs : List Str} {v1 v2 : Value} (h : EInv M w rs ps cs v1 v2 W) (hM : M < w.heap.size) : Below M w W :=
  ⟨h.gr.os, h.gr.tape, h.gr.output, h.gr.size, fun k hk => h.gr.block k (by omega) (fun e => by injection e with e; omega)⟩
section
variable {M : Nat} {w W W' : World} {rs : List LectD} {ps : List ProbD} {cs cs' : List Str} {v1 v2 : Value}
/-- A call in between, which turns nothing but the map at most. -/
theorem EInv.past (h : EInv M w rs ps cs v1 v2 W) (hM : M < w.heap.size) (hg : W.grownBy W' (some M)) (hk : KMap W' M cs') : EInv M w rs ps cs' v1 v2 W' := by
  obtain ⟨⟨Lr, hL, ho, hr⟩, hp, _, hb⟩ := h
  have hs := hg.size
  have hbs := hb.size
  have e1 : some M ≠ v1.ownBlock := fun e => by have := (own_lt ho M e.symm).1; omega
  have e2 : some M ≠ v2.ownBlock := fun e => by have := (own_lt hp M e.symm).1; omega
  refine ⟨⟨Lr, hL, World.ownsRow.kept ho hg (.inr fun e => e1 e.symm), fun p hp' => ?_⟩, World.ownsRow.kept hp hg (.inr fun e => e2 e.symm), hk, hb.andThen hg (fun j hj => .inr hj)⟩
  exact ((hr p hp').kept (fun k hk => hg.block k hk.2.1 (fun e => by injection e; omega))).mono (fun k hk => ⟨hk.1, by omega, hk.2.2⟩)
theorem EInv.under (h : EInv M w rs ps cs v1 v2 W) (hM : M < w.heap.size) (hb : Below W.heap.size W W') : EInv M w rs ps cs v1 v2 W' :=
  h.past hM (grown_none ⟨hb.os, hb.tape, hb.output, hb.size, fun k hk _ => hb.block k hk⟩) (h.map.below hb)
/-- One problem more. -/
theorem EInv.prob {v2' : Value} {p : ProbD} (h : EInv M w rs ps cs v1 v2 W) (hM : M < w.heap.size) (hown : ProbsRow W' w.heap.size v2' (ps ++ [p])) (hg : W.grownBy W' v2.ownBlock) (hat : v2'.ownBlock = v2.ownBlock ∨ ∃ k, v2'.ownBlock = some k ∧ W.heap.size ≤ k) : EInv M w rs (ps ++ [p]) cs v1 v2' W' := by
  obtain ⟨⟨Lr, hL, ho, hr⟩, hp, hk, hb⟩ := h
  have hs := hg.size
  have hbs := hb.size
  have e2 : some M ≠ v2.ownBlock := fun e => by have := (own_lt hp M e.symm).1; omega
  refine ⟨⟨Lr, hL, World.ownsRow.kept ho hg (kinds_ne ho hp (by decide)), fun p hp' => ?_⟩, hown, hk.kept hg e2, hb.andThen hg (fun j hj => .inl (own_lt hp j hj).1)⟩
  refine ((hr p hp').kept (fun k hk => hg.block k hk.2.1 hk.2.2.2)).mono (fun k hk => ⟨hk.1, by omega, hk.2.2.1, ?_⟩)
  rcases hat with e | ⟨j, e, hj⟩
  · rw [e]; exact hk.2.2.2
  · rw [e]; intro e0; injection e0 with e0; have := hk.2.1; omega
/-- One room more. -/
theorem EInv.room {v1' : Value} {r : LectD} {q : LectA} {C : Nat} (h : EInv M w rs ps cs v1 v2 W) (hM : M < w.heap.size)
    (hr' : LectIn W (fun k => C ≤ k ∧ k < W.heap.size) r q) (hC : w.heap.size ≤ C) (h1 : ∀ k, v1.ownBlock = some k → k < C) (h2 : ∀ k, v2.ownBlock = some k → k < C)
    {Lr : List (LectD × LectA)} (hL : Lr.map (·.1) = rs) (ho : W.ownsRow w.heap.size 34 2 v1 Lr.length (lectVals Lr)) (hr : ∀ p ∈ Lr, LectIn W (fun k => w.heap.size ≤ k ∧ k < W.heap.size ∧ some k ≠ v1.ownBlock ∧ some k ≠ v2.ownBlock) p.1 p.2)
    (hown : W'.ownsRow w.heap.size 34 2 v1' (Lr.length + 1) (lectVals Lr ++ lectVs r q))
    (hg : W.grownBy W' v1.ownBlock) (hat : v1'.ownBlock = v1.ownBlock ∨ ∃ k, v1'.ownBlock = some k ∧ W.heap.size ≤ k) : EInv M w (rs ++ [r]) ps cs v1' v2 W' := by
  obtain ⟨_, hp, hk, hb⟩ := h
  have hs := hg.size
  have hbs := hb.size
  have e1 : some M ≠ v1.ownBlock := fun e => by have := (own_lt ho M e.symm).1; omega
  have hne : ∀ k, k < W.heap.size → some k ≠ v1.ownBlock → some k ≠ v1'.ownBlock := by
    intro k hk hne
    rcases hat with e | ⟨j, e, hj⟩
    · rw [e]; exact hne
    · rw [e]; intro e0; injection e0 with e0; omega
  refine ⟨⟨Lr ++ [(r, q)], by rw [List.map_append, hL]; rfl, ?_, fun p hp' => ?_⟩, World.ownsRow.kept hp hg (kinds_ne hp ho (by decide)), hk.kept hg e1, hb.andThen hg (fun j hj => .inl (own_lt ho j hj).1)⟩
  · rw [lectVals_app, List.length_append, List.length_singleton]
    simpa [lectVals] using hown
  · rcases List.mem_append.1 hp' with hp' | hp'
    · exact ((hr p hp').kept (fun k hk => hg.block k hk.2.1 hk.2.2.1)).mono (fun k hk => ⟨hk.1, by omega, hne k hk.2.1 hk.2.2.1, hk.2.2.2⟩)
    · rw [List.mem_singleton] at hp'
      subst hp'
      have k1 : ∀ k, C ≤ k → some k ≠ v1.ownBlock := fun k hk e => by have := h1 k e.symm; omega
      have k2 : ∀ k, C ≤ k → some k ≠ v2.ownBlock := fun k hk e => by have := h2 k e.symm; omega
      exact (hr'.kept (fun k hk => hg.block k hk.2 (k1 k hk.1))).mono (fun k hk => ⟨by omega, by omega, hne k hk.2 (k1 k hk.1), k2 k hk.1⟩)
end
theorem setF_code (d s b m n : Int) (K : Nat) (hK : 0 < K) (i : Nat) (x : Str) (r : LectD) (hx : x.length < K) (hr : r.1.length < K) : (setF d s b m n i x r).1.1.length < K := by
  match i with
  | 0 => simp only [setF]; split <;> simp_all
  | 1 => exact hr
  | j + 2 => exact hr
theorem efold_code (d s b m n : Int) (K : Nat) (hK : 0 < K) : ∀ (fs : List FieldD) (i : Nat) (r : LectD), (∀ f ∈ fs, f.1.length < K) → r.1.length < K → (efold d s b m n fs i r).1.1.length < K
  | [], _, r, _, hr => hr
  | f :: fs, i, r, h, hr => by
    unfold efold
    have h1 := setF_code d s b m n K hK i f.1 r (h f (by simp)) hr
    split
    · exact h1
    · exact efold_code d s b m n K hK fs (i + 1) _ (fun g hg => h g (by simp [hg])) h1
theorem entryM_code (d s b m n : Int) (K : Nat) (hK : 0 < K) (fs : List FieldD) (h : ∀ f ∈ fs, f.1.length < K) : (entryM d s b m n fs).1.1.length < K := by
  unfold entryM
  split
  · exact hK
  · exact efold_code d s b m n K hK fs 0 zeroR h hK
theorem two_new (w : World) (r : LectD) (q : LectA) : ∀ (j : Nat) (u : Value), (lectVs r q)[j]? = some u → (w.alloc (.cells #[.string (ba r.1), .slice q.1 r.2.length q.2] 34)).cell? ((⟨w.heap.size, 0, none⟩ : Addr).add j) = some u := by
  intro j u h
  obtain ⟨k0, k1⟩ := (Box2.new w (.string (ba r.1)) (.slice q.1 r.2.length q.2)).cells
  rw [Addr.add_lit]
  match j, h with
  | 0, h => exact k0.trans h
  | 1, h => exact k1.trans h
  | j + 2, h => simp [lectVs] at h
theorem lect_one (r : LectD) (q : LectA) : ∀ u ∈ lectVs r q, u.oneCell' = true := by
  intro u hu
  simp [lectVs] at hu
  rcases hu with rfl | rfl <;> rfl
/-- What reading entries leaves behind. -/
def EntsOut (M : Nat) (o : List LectD × List ProbD) (w : World) (e : Ending) (w' : World) : Prop := ∃ v1 v2, e = .returned (.tuple #[v1, v2]) ∧ EInv M w o.1 o.2 (codesL o.1) v1 v2 w'
end Go.Proofs.YtnpfmoalgphkcaaGreatDoor.S9

