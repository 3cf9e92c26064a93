/-
  The program's List: its contract (listM). Conditions: the library's variables hold what its text lays; the string has fewer than 2^32 - 15 bytes. What List .. Conditions: as stated.
-/
import Derived.Test.YtlgmanbilaminaaGreatDoorMN07
set_option linter.unusedVariables false
namespace Go.Proofs.YtlgmanbilaminaaGreatDoor.S3
open Go Go.Proofs Go.RowKit Go.Lib
attribute [local go_sem] Oper.semAt_some
def listGo : List Str → List Str → List Str × Int
  | [], l => (l, 0)
  | p :: ps, l => if (partM p (64 - (l.length : Int))).2 ≠ 0 then ([], (partM p (64 - (l.length : Int))).2) else listGo ps (l ++ (partM p (64 - (l.length : Int))).1)
def listM (s : Str) : List Str × Int :=
  if s = [] then ([], 0) else if (listGo (splitL s) []).2 ≠ 0 then ([], (listGo (splitL s) []).2)
  else if checkM (listGo (splitL s) []).1 ≠ 0 then ([], checkM (listGo (splitL s) []).1) else ((listGo (splitL s) []).1, 0)
theorem listGo_app : ∀ (ps : List Str) (l : List Str) (qs : List Str), (listGo ps l).2 = 0 → listGo (ps ++ qs) l = listGo qs (listGo ps l).1
  | [], l, qs, _ => rfl
  | p :: ps, l, qs, h => by
    simp only [listGo, List.cons_append] at h ⊢
    by_cases hc : (partM p (64 - (l.length : Int))).2 = 0
    · rw [if_neg (by simpa using hc)] at h ⊢
      rw [if_neg (by simpa using hc)]
      exact listGo_app ps _ qs h
    · rw [if_pos hc] at h
      exact absurd h hc
theorem partM_ok (p : Str) (m : Int) (h : (partM p m).2 = 0) : 1 ≤ (partM p m).1.length ∧ ((partM p m).1.length : Int) ≤ m := by
  unfold partM at h ⊢
  split at h
  · simp at h
  · rename_i h1
    rw [if_neg h1]
    split at h
    · simp at h
    · rename_i h2
      rw [if_neg h2]
      split at h
      · simp at h
      · rename_i h3
        rw [if_neg h3]
        split at h
        · simp at h
        · rename_i h4
          rw [if_neg h4]
          simp only
          rw [expandL_len _ _ (by omega)]
          omega
theorem splitL_mem : ∀ (l : Str) (p : Str), p ∈ splitL l → p.length ≤ l.length
  | [], p, h => by simp [splitL] at h; simp [h]
  | c :: s, p, h => by
    have ih := splitL_mem s
    simp only [splitL] at h
    split at h
    · rcases List.mem_cons.1 h with rfl | h
      · simp
      · have := ih p h; simp; omega
    · have hne := splitL_ne s
      obtain ⟨a, t, hat⟩ : ∃ a t, splitL s = a :: t := by cases hs : splitL s with | nil => exact absurd hs hne | cons a t => exact ⟨a, t, rfl⟩
      rw [hat] at h
      simp only [List.headD_cons, List.tail_cons] at h
      rcases List.mem_cons.1 h with rfl | h
      · have := ih a (by rw [hat]; exact .head _); simp; omega
      · have := ih p (by rw [hat]; exact .tail _ h); simp; omega
set_option maxHeartbeats 1000000 in
theorem splitSeq_any (s : ByteArray) (w : World) : Calls Tryz.prog 146 #[.string s, .string ⟨#[59]⟩] w fun e w' =>
    e = .returned (.func (.func 188) #[] #[.pointer (some ⟨w.heap.size + 1, 0, none⟩), .pointer (some ⟨w.heap.size, 0, none⟩), .pointer (some ⟨w.heap.size + 2, 0, none⟩)]) ∧
    w' = ((w.alloc (.cells #[.string s] 9)).alloc (.cells #[.string ⟨#[59]⟩] 9)).alloc (.cells #[.int .i64 0] 3) := by
  have c56 : Calls Tryz.prog 166 #[.string s, .string ⟨#[59]⟩, .int .i64 0] w fun e w' =>
      e = .returned (.func (.func 188) #[] #[.pointer (some ⟨w.heap.size + 1, 0, none⟩), .pointer (some ⟨w.heap.size, 0, none⟩), .pointer (some ⟨w.heap.size + 2, 0, none⟩)]) ∧
      w' = ((w.alloc (.cells #[.string s] 9)).alloc (.cells #[.string ⟨#[59]⟩] 9)).alloc (.cells #[.int .i64 0] 3) := by
    go_enter Tryz.func166, Tryz.ntmps166
    go_wp2
    go_ret
    exact ⟨rfl, rfl⟩
  go_enter Tryz.func146, Tryz.ntmps146
  go_wp2_with fail
  refine c56.mono ?_
  rintro e w' ⟨rfl, rfl⟩
  go_wp2
  go_ret
  exact ⟨rfl, rfl⟩
structure LInv (N : Nat) (w : World) (st : St) (W : World) : Prop where
  below : Below N w W
  size : N + 6 ≤ W.heap.size
  r1 : Boxed W N 40 (.slice none 0 0)
  r2 : Boxed W (N + 1) 29 (.int .i64 0)
  v1 : Boxed W (N + 3) 9 (.string st.2)
  v2 : Boxed W (N + 4) 9 (.string ⟨#[59]⟩)
  v3 : Boxed W (N + 5) 3 (.int .i64 0)
  acc : ∃ v, Boxed W (N + 2) 40 v ∧ StrRow W (N + 6) v (listGo st.1 []).1
  ok : (listGo st.1 []).2 = 0
  len : (listGo st.1 []).1.length ≤ 64
structure LErr (N : Nat) (w : World) (s : Str) (W : World) : Prop where
  below : Below N w W
  out : ∃ e : Int, (listGo (splitL s) []).2 = e ∧ e ≠ 0 ∧ Boxed W N 40 (.slice none 0 0) ∧ Boxed W (N + 1) 29 (.int .i64 e)
theorem LInv.kept {N : Nat} {w : World} {st : St} {W W' : World} {row : Option Nat} (h : LInv N w st W) (hN : N ≤ w.heap.size) (hg : W.grownBy W' row) (hr : ∀ r, row = some r → N + 6 ≤ r) (hrow : ∀ v, Boxed W (N + 2) 40 v → StrRow W (N + 6) v (listGo st.1 []).1 → v.ownBlock = none ∨ v.ownBlock ≠ row) : LInv N w st W' := by
  have hne : ∀ B, B < N + 6 → some B ≠ row := fun B hB e => by have := hr B e.symm; omega
  obtain ⟨v, hv, hw⟩ := h.acc
  have hs := h.below.size
  exact ⟨h.below.grown hg (by omega) (fun k e => by have := hr k e; omega), Nat.le_trans h.size hg.size, h.r1.kept hg (hne _ (by omega)), h.r2.kept hg (hne _ (by omega)), h.v1.kept hg (hne _ (by omega)), h.v2.kept hg (hne _ (by omega)), h.v3.kept hg (hne _ (by omega)),
    ⟨v, hv.kept hg (hne _ (by omega)), World.ownsRow.kept hw hg (hrow v hv hw)⟩, h.ok, h.len⟩
theorem LInv.own {N B : Nat} {w : World} (hN : N ≤ w.heap.size) (hB : N + 6 ≤ B) : OwnFrom B (LInv N w) := by
  intro st W W' row h hg hr
  refine h.kept hN hg (fun r e => by have := (hr r e).1; omega) (fun v hv hw => ?_)
  rcases hw.2 with ⟨rfl, _⟩ | ⟨g, cap, cur, rfl, _, hgb, _⟩
  · exact .inl rfl
  · refine .inr fun e' => ?_
    obtain ⟨_, o, ho, hc⟩ := hr g (by simpa [Value.ownBlock] using e'.symm)
    rw [hgb] at ho; cases ho; cases hc
theorem LErr.own {N B : Nat} {w : World} {s : Str} (hN : N ≤ w.heap.size) (hB : N + 6 ≤ B) : OwnFrom B (fun (_ : Unit) W => LErr N w s W) := by
  rintro _ W W' row ⟨hb, e, he, h0, h1, h2⟩ hg hr
  have hne : ∀ B, B < N + 6 → some B ≠ row := fun B' hB' e => by have := (hr B' e.symm).1; omega
  have hs := hb.size
  exact ⟨hb.grown hg (by omega) (fun k e => by have := (hr k e).1; omega), e, he, h0, h1.kept hg (hne _ (by omega)), h2.kept hg (hne _ (by omega))⟩
theorem LInv.turn {N : Nat} {w : World} {st : St} {W : World} (h : LInv N w st W) (hN : N ≤ w.heap.size) (r : ByteArray) : LInv N w (st.1, r) (W.setCell ⟨N + 3, 0, none⟩ (.string r)) := by
  have hg := grownBy_setCell' W (N + 3) (.string r)
  have hne : ∀ B, B ≠ N + 3 → some B ≠ some (N + 3) := fun B hB e => hB (by injection e)
  obtain ⟨v, hv, hw⟩ := h.acc
  have hs := h.below.size
  refine ⟨h.below.grown hg (by omega) (fun k e => by injection e; omega), Nat.le_trans h.size hg.size, h.r1.kept hg (hne _ (by omega)), h.r2.kept hg (hne _ (by omega)), h.v1.set _, h.v2.kept hg (hne _ (by omega)), h.v3.kept hg (hne _ (by omega)),
    ⟨v, hv.kept hg (hne _ (by omega)), World.ownsRow.kept hw hg ?_⟩, h.ok, h.len⟩
  refine .inr fun e => ?_
  have := World.ownsRow.lt hw _ e
  omega
theorem LInv.vars {N : Nat} {w : World} {st : St} {W : World} (h : LInv N w st W) : SplitVars (N + 3) st.2 W := ⟨h.v1.cell, h.v1.frozen, h.v2.cell, h.v3.cell⟩
theorem results_cc {fn : Func} {p u : Tmp} {A B : TypeId} (h : fn.results = #[.cell p A, .cell u B]) (tmps : Array Value) (P : Program) (w : World) (a b : Addr) (va vb : Value)
    (ha : tmps.getD p undef = .pointer (some a)) (hb : tmps.getD u undef = .pointer (some b))
    (hla : (loadVar A a).run P w = .ok va w) (hlb : (loadVar B b).run P w = .ok vb w) : (results fn tmps).run P w = .ok (.tuple #[va, vb]) w := by
  rw [Array.getD_eq_getD_getElem?] at ha hb
  simp only [results, h]
  simp [Result.andThen, ha, hb, hla, hlb, asAddr]
theorem loadStrs {w : World} {k : Nat} {x : Value} (h0 : w.cell? ⟨k, 0, none⟩ = some x) : (loadVar 40 ⟨k, 0, none⟩).run Tryz.prog w = .ok x w := by
  simp [loadVar, go_sem, h0]
theorem loadErr {w : World} {k : Nat} {x : Value} (h0 : w.cell? ⟨k, 0, none⟩ = some x) : (loadVar 29 ⟨k, 0, none⟩).run Tryz.prog w = .ok x w := by
  simp [loadVar, go_sem, h0]
theorem splitL_one : ∀ (l : Str), 59 ∉ l → splitL l = [l]
  | [], _ => rfl
  | c :: s, h => by
    have ih := splitL_one s (fun hm => h (.tail _ hm))
    unfold splitL
    rw [if_neg (fun e => h (by rw [e]; exact .head _)), ih]
    rfl
theorem index_dots (b : Str) : ∀ (a : Str), 46 ∉ a → index (a ++ 46 :: 46 :: b) [46, 46] = a.length
  | [], _ => by simp [index]
  | c :: a, h => by
    have ih := index_dots b a (fun hm => h (.tail _ hm))
    have hc : ¬ (46 : UInt8) = c := fun e => h (by rw [e]; exact .head _)
    show index (c :: (a ++ 46 :: 46 :: b)) [46, 46] = _
    unfold index
    rw [ih, if_neg (by simp [hc]), if_neg (by simp only [beq_iff_eq]; omega)]
    simp
theorem index_none : ∀ (b : Str), 46 ∉ b → index b [46, 46] = -1
  | [], _ => rfl
  | c :: b, h => by
    have ih := index_none b (fun hm => h (.tail _ hm))
    have hc : ¬ (46 : UInt8) = c := fun e => h (by rw [e]; exact .head _)
    unfold index
    rw [ih, if_neg (by simp [hc])]
    rfl
theorem cut_dots (a b : Str) (h : 46 ∉ a) : Lib.cut (a ++ 46 :: 46 :: b) dots2 = (a, b, true) := by
  unfold Lib.cut dots2
  rw [index_dots b a h, if_pos (by omega)]
  simp
def aheadGo (f : Str) : Nat → List Str → Nat
  | i, [] => i
  | i, c :: r => if c = nthS f i then aheadGo f (i + 1) r else i
def aheadM (l : List Str) : Nat := match l with | [] => 0 | f :: r => if hasL f = true then aheadGo f 1 r else 1
theorem aheadGo_facts (f : Str) : ∀ (r : List Str) (i : Nat), i ≤ aheadGo f i r ∧ aheadGo f i r ≤ i + r.length ∧ ∀ j, j < aheadGo f i r - i → r[j]? = some (nthS f (i + j))
  | [], i => ⟨by simp [aheadGo], by simp [aheadGo], fun j hj => by simp [aheadGo] at hj⟩
  | c :: r, i => by
    by_cases h : c = nthS f i
    · have e : aheadGo f i (c :: r) = aheadGo f (i + 1) r := if_pos h
      obtain ⟨h1, h2, h3⟩ := aheadGo_facts f r (i + 1)
      rw [e]
      refine ⟨by omega, by simp; omega, fun j hj => ?_⟩
      match j with
      | 0 => simp [h]
      | j + 1 =>
        have := h3 j (by omega)
        rw [List.getElem?_cons_succ, this, show i + 1 + j = i + (j + 1) by omega]
    · have e : aheadGo f i (c :: r) = i := if_neg h
      rw [e]
      exact ⟨Nat.le_refl _, by simp, fun j hj => by omega⟩
theorem ahead_pos (f : Str) (r : List Str) : 1 ≤ aheadM (f :: r) ∧ aheadM (f :: r) ≤ r.length + 1 := by
  unfold aheadM
  simp only
  split
  · have := aheadGo_facts f r 1; omega
  · omega
theorem ahead_has (f : Str) (r : List Str) (h : 2 ≤ aheadM (f :: r)) : hasL f = true := by
  unfold aheadM at h
  simp only at h
  split at h
  · assumption
  · omega
theorem ahead_nth (f : Str) (r : List Str) (j : Nat) (h : j + 1 < aheadM (f :: r)) : r[j]? = some (nthS f (j + 1)) := by
  have hh := ahead_has f r (by omega)
  unfold aheadM at h
  simp only [hh, if_true] at h
  have := (aheadGo_facts f r 1).2.2 j (by omega)
  rw [this, Nat.add_comm]
theorem ahead_take (f : Str) (r : List Str) (n : Nat) (hn : 1 ≤ n) (h : n ≤ aheadM (f :: r)) : (f :: r).take n = expandL f n := by
  obtain ⟨m, rfl⟩ : ∃ m, n = m + 1 := ⟨n - 1, by omega⟩
  unfold expandL
  rw [List.take_succ_cons, show m + 1 - 1 = m by omega]
  congr 1
  have hl := (ahead_pos f r).2
  refine List.ext_getElem (by simp; omega) (fun j h1 h2 => ?_)
  have hj : j < m := by simp at h1; omega
  have := ahead_nth f r j (by omega)
  rw [List.getElem?_eq_getElem (by omega)] at this
  simp [Option.some.inj this]
theorem pre_nth (f : Str) (d : Nat) : preS (nthS f d) = preS f := by
  unfold nthS
  exact pre_app _ _ (wr_dgs _ _) (fun q c h => pre_end f q c h)
theorem last_nth (f : Str) (d : Nat) : lastS (nthS f d) = wrS (numL f + d) (lastS f).length := by
  unfold nthS
  exact last_app _ _ (wr_dgs _ _) (fun q c h => pre_end f q c h)
theorem num_nth (f : Str) (d : Nat) : numL (nthS f d) = numL f + d := by
  unfold numL
  rw [last_nth, wr_num]
  rfl
theorem has_nth (f : Str) (d : Nat) : hasL (nthS f d) = true := by
  unfold hasL
  rw [last_nth]
  cases h : wrS (numL f + d) (lastS f).length with
  | nil => exact absurd h (wr_ne _ _)
  | cons c r => rfl
theorem range_nth (f : Str) (d : Nat) (h : hasL f = true) : rangeN f (nthS f d) = d + 1 := by
  unfold rangeN
  rw [if_pos ⟨h, has_nth _ _, by rw [num_nth]; omega, by rw [num_nth]; rfl⟩, num_nth]
  omega
theorem valid_mem {c : UInt8} {l : Str} (h : validC l = true) (hc : c ∈ l) : okC c = true := by
  unfold validC at h
  split at h
  · simp at hc
  · simp only [Bool.and_eq_true] at h
    exact List.all_eq_true.1 h.2 c hc
theorem valid_ne {l : Str} (h : validC l = true) : l ≠ [] := by
  rintro rfl
  simp [validC] at h
theorem valid_46 {l : Str} (h : validC l = true) : 46 ∉ l := fun hm => by have := valid_mem h hm; revert this; decide
theorem valid_59 {l : Str} (h : validC l = true) : 59 ∉ l := fun hm => by have := valid_mem h hm; revert this; decide
def rangeT (f : Str) (n : Nat) : Str := f ++ 46 :: 46 :: nthS f (n - 1)
def joinP : Nat → List Str → List Str
  | 0, _ => []
  | _ + 1, [] => []
  | k + 1, f :: r => if 3 ≤ aheadM (f :: r) then rangeT f (aheadM (f :: r)) :: joinP k ((f :: r).drop (aheadM (f :: r))) else f :: joinP k r
theorem part_range (f : Str) (n : Nat) (m : Int) (hn : 1 ≤ n) (hm : (n : Int) ≤ m) (h : hasL f = true) (hf : validC f = true) (hl : validC (nthS f (n - 1)) = true) : partM (rangeT f n) m = (expandL f n, 0) := by
  have hc := cut_dots f (nthS f (n - 1)) (valid_46 hf)
  have hb : befP (rangeT f n) = f := by unfold befP rangeT; rw [hc]
  have ha : aftP (rangeT f n) = nthS f (n - 1) := by unfold aftP rangeT; rw [hc]
  have hi : isP (rangeT f n) = true := by unfold isP rangeT; rw [hc]
  have hq : nP (rangeT f n) = n := by unfold nP; rw [if_pos hi, hb, ha, range_nth _ _ h]; omega
  have hcon : Lib.contains (nthS f (n - 1)) dots2 = false := by
    unfold Lib.contains dots2
    rw [index_none _ (valid_46 hl)]
    rfl
  unfold partM
  rw [hb, ha, hi, hq, hf, hl, hcon, if_neg (by simp [rangeT]), if_neg (by simp), if_neg (by omega), if_neg (by omega)]
theorem cut_none (f : Str) (h : 46 ∉ f) : Lib.cut f dots2 = (f, [], false) := by
  unfold Lib.cut dots2
  rw [index_none f h, if_neg (by omega)]
theorem part_one (f : Str) (m : Int) (hm : 1 ≤ m) (hf : validC f = true) : partM f m = ([f], 0) := by
  have hc := cut_none f (valid_46 hf)
  have hb : befP f = f := by unfold befP; rw [hc]
  have ha : aftP f = [] := by unfold aftP; rw [hc]
  have hi : isP f = false := by unfold isP; rw [hc]
  have hq : nP f = 1 := by unfold nP; rw [hi]; rfl
  have hcon : Lib.contains [] dots2 = false := by decide
  unfold partM
  rw [hb, ha, hi, hq, hf, hcon, if_neg (by simp [valid_ne hf]), if_neg (by simp), if_neg (by omega), if_neg (by omega)]
  rfl
theorem list_parts : ∀ (k : Nat) (l : List Str) (acc : List Str), l.length ≤ k → (∀ c ∈ l, validC c = true) → acc.length + l.length ≤ 64 → listGo (joinP k l) acc = (acc ++ l, 0)
  | 0, l, acc, hk, _, _ => by
    obtain rfl : l = [] := List.eq_nil_of_length_eq_zero (by omega)
    simp [joinP, listGo]
  | k + 1, [], acc, _, _, _ => by simp [joinP, listGo]
  | k + 1, f :: r, acc, hk, hv, h64 => by
    have hp := ahead_pos f r
    simp only [List.length_cons] at hk h64
    unfold joinP
    by_cases h3 : 3 ≤ aheadM (f :: r)
    · rw [if_pos h3]
      obtain ⟨n, hn⟩ : ∃ n, aheadM (f :: r) = n := ⟨_, rfl⟩
      have htk := ahead_take f r (aheadM (f :: r)) hp.1 (Nat.le_refl _)
      have hnv : validC (nthS f (aheadM (f :: r) - 1)) = true := by
        have := ahead_nth f r (aheadM (f :: r) - 2) (by omega)
        rw [show aheadM (f :: r) - 2 + 1 = aheadM (f :: r) - 1 by omega] at this
        exact hv _ (List.mem_cons_of_mem _ (List.mem_of_getElem? this))
      have hpr := part_range f (aheadM (f :: r)) (64 - (acc.length : Int)) (by omega) (by omega) (ahead_has f r (by omega)) (hv f (.head _)) hnv
      rw [hn] at htk hpr h3 hp ⊢
      have hdl : ((f :: r).drop n).length = r.length + 1 - n := by simp
      have ih := list_parts k ((f :: r).drop n) (acc ++ expandL f n) (by omega) (fun c hc => hv c (List.mem_of_mem_drop hc)) (by rw [List.length_append, expandL_len _ _ (by omega)]; omega)
      simp only [listGo, hpr]
      rw [if_neg (by simp), ih, ← htk, List.append_assoc, List.take_append_drop]
    · rw [if_neg h3]
      have hpo := part_one f (64 - (acc.length : Int)) (by omega) (hv f (.head _))
      have ih := list_parts k r (acc ++ [f]) (by omega) (fun c hc => hv c (.tail _ hc)) (by simp; omega)
      simp only [listGo, hpo]
      rw [if_neg (by simp), ih]
      simp
theorem parts_59 : ∀ (k : Nat) (l : List Str), (∀ c ∈ l, validC c = true) → ∀ p ∈ joinP k l, 59 ∉ p
  | 0, l, _, p, hp => by simp [joinP] at hp
  | k + 1, [], _, p, hp => by simp [joinP] at hp
  | k + 1, f :: r, hv, p, hp => by
    unfold joinP at hp
    split at hp
    · rename_i h3
      rcases List.mem_cons.1 hp with rfl | hp
      · have hnv : validC (nthS f (aheadM (f :: r) - 1)) = true := by
          have := ahead_nth f r (aheadM (f :: r) - 2) (by omega)
          rw [show aheadM (f :: r) - 2 + 1 = aheadM (f :: r) - 1 by omega] at this
          exact hv _ (List.mem_cons_of_mem _ (List.mem_of_getElem? this))
        intro hm
        unfold rangeT at hm
        rcases List.mem_append.1 hm with hm | hm
        · exact valid_59 (hv f (.head _)) hm
        · rcases List.mem_cons.1 hm with hm | hm
          · revert hm; decide
          · rcases List.mem_cons.1 hm with hm | hm
            · revert hm; decide
            · exact valid_59 hnv hm
      · exact parts_59 k _ (fun c hc => hv c (List.mem_of_mem_drop hc)) p hp
    · rcases List.mem_cons.1 hp with rfl | hp
      · exact valid_59 (hv p (.head _))
      · exact parts_59 k r (fun c hc => hv c (.tail _ hc)) p hp
def semi : List Str → Str
  | [] => []
  | [p] => p
  | p :: q :: r => p ++ 59 :: semi (q :: r)
theorem split_cons (rest : Str) : ∀ (p : Str), 59 ∉ p → splitL (p ++ 59 :: rest) = p :: splitL rest
  | [], _ => by
    show splitL (59 :: rest) = _
    conv => lhs; unfold splitL
    rw [if_pos rfl]
  | c :: p, h => by
    have ih := split_cons rest p (fun hm => h (.tail _ hm))
    show splitL (c :: (p ++ 59 :: rest)) = _
    conv => lhs; unfold splitL
    rw [if_neg (fun e => h (by rw [e]; exact .head _)), ih]
    rfl
theorem split_semi : ∀ (l : List Str), l ≠ [] → (∀ p ∈ l, 59 ∉ p) → splitL (semi l) = l
  | [], h, _ => absurd rfl h
  | [p], _, h => splitL_one p (h p (.head _))
  | p :: q :: r, _, h => by
    have ih := split_semi (q :: r) (by simp) (fun x hx => h x (.tail _ hx))
    show splitL (p ++ 59 :: semi (q :: r)) = _
    rw [split_cons _ _ (h p (.head _)), ih]
def joinM (l : List Str) : Str := semi (joinP l.length l)
theorem checkGo_valid : ∀ (r seen : List Str), checkGo seen r = 0 → ∀ c ∈ r, validC c = true
  | [], _, _, c, hc => by simp at hc
  | d :: r, seen, h, c, hc => by
    unfold checkGo at h
    split at h
    · simp at h
    · rename_i h1
      split at h
      · simp at h
      · rcases List.mem_cons.1 hc with rfl | hc
        · simpa using h1
        · exact checkGo_valid r _ h c hc
theorem check_valid {l : List Str} (h : checkM l = 0) : l.length ≤ 64 ∧ ∀ c ∈ l, validC c = true := by
  unfold checkM at h
  split at h
  · simp at h
  · exact ⟨by omega, checkGo_valid _ _ h⟩
theorem list_join (l : List Str) (h : checkM l = 0) : listM (joinM l) = (l, 0) := by
  obtain ⟨h64, hv⟩ := check_valid h
  match l, h, h64, hv with
  | [], _, _, _ => rfl
  | f :: r, h, h64, hv =>
    have hne : joinP (f :: r).length (f :: r) ≠ [] := by
      show joinP (r.length + 1) (f :: r) ≠ []
      unfold joinP
      split <;> simp
    have hsp : splitL (joinM (f :: r)) = joinP (f :: r).length (f :: r) := split_semi _ hne (parts_59 _ _ hv)
    have hgo := list_parts (f :: r).length (f :: r) [] (Nat.le_refl _) hv (by simpa using h64)
    have hjn : joinM (f :: r) ≠ [] := by
      intro e
      have h2 := hsp
      rw [e] at h2
      have h3 : splitL [] = [[]] := rfl
      rw [h3] at h2
      have h4 := hgo
      rw [← h2] at h4
      have h5 : partM [] (64 - (([] : List Str).length : Int)) = ([], 4) := rfl
      simp only [listGo, h5] at h4
      rw [if_pos (by simp)] at h4
      simp at h4
    unfold listM
    rw [if_neg hjn, hsp, hgo, if_neg (by simp)]
    simp only [List.nil_append]
    rw [if_neg (by rw [h]; simp)]
end Go.Proofs.YtlgmanbilaminaaGreatDoor.S3
namespace Go.Proofs.YtlgmanbilaminaaGreatDoor
open Go Go.Lib
def bitB (s k : Nat) : Bool := decide (s / 2 ^ k % 2 = 1)
def splitL : Str → List Str
  | [] => [[]]
  | c :: s => if c = 44 then [] :: splitL s else (c :: (splitL s).headD []) :: (splitL s).tail
def cnt : Nat → List Nat → Nat
  | _, [] => 0
  | a, b :: l => if b = a + 1 then cnt b l + 1 else 0
def dec2 (u : Nat) : Str := if u < 10 then [UInt8.ofNat (48 + u)] else [UInt8.ofNat (48 + u / 10), UInt8.ofNat (48 + u % 10)]
def validM (S N : Int) : Bool := decide ((1 ≤ N ∧ N ≤ 20) ∧ 1 ≤ S ∧ S < 2 ^ N.toNat)
end Go.Proofs.YtlgmanbilaminaaGreatDoor
namespace Go.Proofs.YtlgmanbilaminaaGreatDoor
open Go Go.Proofs Go.RowKit Go.Lib
def nv : Nat → Array Value
  | 0 => #[.string ⟨#[97, 108, 108]⟩, .int .i64 1048575, .bool true, .bool true]
  | 1 => #[.string ⟨#[111, 100, 100]⟩, .int .i64 349525, .bool true, .bool true]
  | 2 => #[.string ⟨#[101, 118, 101, 110]⟩, .int .i64 699050, .bool true, .bool true]
  | 3 => #[.string ⟨#[102, 105, 114, 115, 116]⟩, .int .i64 1048575, .bool true, .bool false]
  | _ => #[.string ⟨#[115, 101, 99, 111, 110, 100]⟩, .int .i64 1048575, .bool false, .bool true]
def NA : Array Value := #[Value.string { data := #[97, 108, 108] }, Value.int IntKind.i64 1048575, Value.bool true, Value.bool true, Value.string { data := #[111, 100, 100] }, Value.int IntKind.i64 349525, Value.bool true, Value.bool true, Value.string { data := #[101, 118, 101, 110] }, Value.int IntKind.i64 699050, Value.bool true, Value.bool true, Value.string { data := #[102, 105, 114, 115, 116] }, Value.int IntKind.i64 1048575, Value.bool true, Value.bool false, Value.string { data := #[115, 101, 99, 111, 110, 100] }, Value.int IntKind.i64 1048575, Value.bool false, Value.bool true]
def CutOut (c : UInt8) (s : ByteArray) (w : World) (e : Ending) (w' : World) : Prop :=
  e = .returned (.tuple #[.string (ba (bef c (lst s))), .string (ba (aft c (lst s))), .bool (has c (lst s))]) ∧ ∃ n, w' = w.drewN n
theorem atoi_dec (a : UInt8) (r : Str) (h : 49 ≤ a.toNat) : Lib.atoi (a :: r) = (Lib.decFrom 0 (a :: r)).map fun (n : Nat) => (n : Int) := by
  have e1 : (a == 45) = false := by
    rw [beq_eq_false_iff_ne]
    rintro rfl
    simp at h
  have e2 : (a == 43) = false := by
    rw [beq_eq_false_iff_ne]
    rintro rfl
    simp at h
  unfold Lib.atoi
  dsimp only
  rw [e1, e2, if_neg (by simp), if_neg (by simp)]
  unfold Lib.decNat
  rw [if_neg (by simp)]
theorem lst_cons {s : ByteArray} (h : 0 < s.size) : ∃ r, lst s = s[0]'h :: r := by
  have hl : 0 < (lst s).length := by rw [← Lib.size_eq]; exact h
  cases hs : lst s with
  | nil => rw [hs] at hl; simp at hl
  | cons a r =>
    refine ⟨r, ?_⟩
    congr 1
    have h2 : (lst s)[0]? = some (s[0]'h) := by
      have h3 : 0 < s.data.size := h
      show s.data.toList[0]? = _
      rw [Array.getElem?_toList, Array.getElem?_eq_getElem h3]
      rfl
    rw [hs] at h2
    simpa using h2
theorem ba_size (l : Str) : (ba l).size = l.length := rfl
theorem lst_get (s : ByteArray) (j : Nat) (h : j < s.size) : (lst s)[j]? = some (s[j]'h) := by
  have h3 : j < s.data.size := h
  show s.data.toList[j]? = _
  rw [Array.getElem?_toList, Array.getElem?_eq_getElem h3]
  rfl
def numN (l : Str) : Nat := l.foldl (fun n c => 10 * n + (c.toNat - 48)) 0
theorem numN_snoc (l : Str) (c : UInt8) : numN (l ++ [c]) = 10 * numN l + (c.toNat - 48) := by simp [numN]
end Go.Proofs.YtlgmanbilaminaaGreatDoor
namespace Go.Proofs.YtlgmanbilaminaaGreatDoor
open Go Go.Lib
def wF (s : Nat) : Nat → Nat → List Nat
  | _, 0 => []
  | i, k + 1 => if bitB s i = true then (i + 1) :: wF s (i + 1) k else wF s (i + 1) k
def cB (s : Nat) : Nat → Nat → Nat
  | _, 0 => 0
  | i, k + 1 => if bitB s i = true then cB s (i + 1) k + 1 else 0
def GridP (d s b m : Int) : Prop := (1 ≤ d ∧ d ≤ 7) ∧ (1 ≤ s ∧ s ≤ 24) ∧ (0 ≤ b ∧ b ≤ 1439) ∧ (5 ≤ m ∧ m ≤ 120) ∧ b + s * m ≤ 1440
instance (d s b m : Int) : Decidable (GridP d s b m) := by unfold GridP; infer_instance
def SoundP (k y t l : Int) : Prop := validM k 20 = true ∧ (0 ≤ y ∧ y ≤ 6) ∧ 0 ≤ t ∧ 1 ≤ l ∧ t + l ≤ 24
instance (k y t l : Int) : Decidable (SoundP k y t l) := by unfold SoundP; infer_instance
end Go.Proofs.YtlgmanbilaminaaGreatDoor
namespace Go.Proofs.YtlgmanbilaminaaGreatDoor.S3
open Go Go.Proofs Go.RowKit Go.Lib
attribute [local go_sem] Oper.semAt_some
def ListOut (r : List Str × Int) (w : World) (e : Ending) (w' : World) : Prop := (∃ v, e = .returned (.tuple #[v, .int .i64 r.2]) ∧ StrRow w' w.heap.size v r.1) ∧ Below w.heap.size w w'
theorem Boxed.under {W W2 : World} {B : Nat} {t : TypeId} {v : Value} (h : Boxed W B t v) (hb : Below W.heap.size W W2) : Boxed W2 B t v := (hb.block _ h.lt).trans h
theorem keeps_below {W W2 : World} (hb : Below W.heap.size W W2) : KeepsOthers W W2 := ⟨hb.size, fun k o hk _ => (hb.block k (Array.getElem?_eq_some_iff.1 hk).1).trans hk⟩
theorem LInv.step {N : Nat} {w : World} {pre : List Str} {r : ByteArray} {W W2 w3 : World} {v v' : Value} {L L' : List Str} {x : Str} (h : LInv N w (pre, r) W) (hN : N ≤ w.heap.size) (hb : Below W.heap.size W W2) (hv : Boxed W (N + 2) 40 v)
    (hrow2 : StrRow W2 (N + 6) v L) (hg : W2.grownBy w3 v.ownBlock) (hown : StrRow w3 (N + 6) v' L') (hx : listGo (pre ++ [x]) [] = (L', 0)) (hl : L'.length ≤ 64) (B0 : Nat) :
    LInv N w (pre ++ [x], r) (w3.setCell ⟨N + 2, 0, none⟩ v') ∧ KeepsFrom B0 W (w3.setCell ⟨N + 2, 0, none⟩ v') := by
  have hs := h.below.size
  have hlt := hrow2.lt
  have hlt' := hown.lt
  have hne : ∀ B, B < N + 6 → some B ≠ v.ownBlock := fun B hB e => by have := hlt B e.symm; omega
  have hg2 := grownBy_setCell' w3 (N + 2) v'
  have hne2 : ∀ B, B ≠ N + 2 → some B ≠ some (N + 2) := fun B hB e => hB (by injection e)
  have up : ∀ {B : Nat} {t : TypeId} {u : Value}, Boxed W B t u → B < N + 6 → B ≠ N + 2 → Boxed (w3.setCell ⟨N + 2, 0, none⟩ v') B t u := fun hu h6 h2 => ((Boxed.under hu hb).kept hg (hne _ h6)).kept hg2 (hne2 _ h2)
  have hv3 : Boxed w3 (N + 2) 40 v := (Boxed.under hv hb).kept hg (hne _ (by omega))
  have hsz := h.size
  have hb3 : Below N w (w3.setCell ⟨N + 2, 0, none⟩ v') := ((h.below.trans (hb.mono (by omega))).grown hg (by have := hb.size; omega) (fun k hk => by have := hlt k hk; omega)).grown hg2 (by have := hb.size; have := hg.size; omega) (fun k e => by injection e; omega)
  refine ⟨⟨hb3, ?_, up h.r1 (by omega) (by omega), up h.r2 (by omega) (by omega), up h.v1 (by omega) (by omega), up h.v2 (by omega) (by omega), up h.v3 (by omega) (by omega), ⟨v', hv3.set v', ?_⟩, by rw [hx], by rw [hx]; exact hl⟩, ?_⟩
  · have := hb.size; have := hg.size; have := hg2.size; omega
  · rw [hx]
    exact World.ownsRow.kept hown hg2 (.inr fun e => by have := hlt' _ e; omega)
  · refine (((keeps_below hb).trans (KeepsOthers.of_grownBy hg fun j o ej hj => ?_)).trans (KeepsOthers.setCell _ _ _)).from _
    obtain ⟨c, hc⟩ := row_kind9 hrow2 j ej
    rw [hc] at hj
    cases hj
    rfl
theorem box_at {W : World} {n : Nat} (h : W.heap.size = n) (t : TypeId) (v : Value) : Boxed (W.alloc (.cells #[v] t)) n t v := by subst h; exact Boxed.new W t v
theorem list_end {N D : Nat} {W : World} {u0 u1 v e : Value} (h1 : Boxed W N 40 u0) (h2 : Boxed W (N + 1) 29 u1) (hD : N + 6 ≤ D) (hK : W.heap[D]? = some (.deferred (some []))) :
    ((W.setCell ⟨N, 0, none⟩ v).setCell ⟨N + 1, 0, none⟩ e).heap[D]? = some (.deferred (some [])) ∧
    Boxed (((W.setCell ⟨N, 0, none⟩ v).setCell ⟨N + 1, 0, none⟩ e).putObj D (.deferred none)) N 40 v ∧ Boxed (((W.setCell ⟨N, 0, none⟩ v).setCell ⟨N + 1, 0, none⟩ e).putObj D (.deferred none)) (N + 1) 29 e ∧
    Below N W (((W.setCell ⟨N, 0, none⟩ v).setCell ⟨N + 1, 0, none⟩ e).putObj D (.deferred none)) ∧
    (∀ u n xs, W.ownsRow (N + 6) 9 1 u n xs → (((W.setCell ⟨N, 0, none⟩ v).setCell ⟨N + 1, 0, none⟩ e).putObj D (.deferred none)).ownsRow (N + 6) 9 1 u n xs) := by
  have hg1 := grownBy_setCell' W N v
  have hg2 := grownBy_setCell' (W.setCell ⟨N, 0, none⟩ v) (N + 1) e
  have hg3 := grownBy_putObj' ((W.setCell ⟨N, 0, none⟩ v).setCell ⟨N + 1, 0, none⟩ e) D (.deferred none)
  have hne : ∀ a b : Nat, a ≠ b → some a ≠ some b := fun a b h e => h (by injection e)
  have hlt := h2.lt
  have k0 : ((W.setCell ⟨N, 0, none⟩ v).setCell ⟨N + 1, 0, none⟩ e).heap[D]? = some (.deferred (some [])) := (KeepsOthers.setCell _ _ _).same D _ ((KeepsOthers.setCell W _ _).same D _ hK rfl) rfl
  refine ⟨k0, ((h1.set v).kept hg2 (hne _ _ (by omega))).kept hg3 (hne _ _ (by omega)), ((h2.kept hg1 (hne _ _ (by omega))).set e).kept hg3 (hne _ _ (by omega)), ?_, ?_⟩
  · exact (((Below.refl N W).grown hg1 (by omega) (fun k e => by injection e; omega)).grown hg2 (by have := hg1.size; omega) (fun k e => by injection e; omega)).grown hg3 (by have := hg1.size; have := hg2.size; omega) (fun k e => by injection e; omega)
  · intro u n xs h
    have := h.lt
    exact ownsRow_putObj (World.ownsRow.kept (World.ownsRow.kept h hg1 (.inr fun e => by have := this _ e; omega)) hg2 (.inr fun e => by have := this _ e; omega)) _ k0 rfl
set_option maxHeartbeats 8000000 in
set_option maxRecDepth 100000 in
theorem list_any (s : ByteArray) (hs : s.size < 4294967281) (w : World) (hE : Env w) : Calls Tryz.prog 123 #[.string s] w (ListOut (listM (lst s)) w) := by
  refine (callsIn_wide (n := 9)).1 ?_
  refine callsIn_of_wp_marks Tryz.func123 rfl trivial ?_ rfl
  simp only [Tryz.ntmps123, List.size_toArray, List.length_cons, List.length_nil, Nat.reduceAdd, Nat.reduceSub, Array.replicate_succ, Array.replicate_zero, List.push_toArray, List.append_toArray, List.nil_append, List.cons_append]
  by_cases h0 : 0 < s.size
  · obtain ⟨x1, x2, x3, x4⟩ := str_no h0
    have hne := lst_ne h0
    gi_wp2_with fail
    refine ⟨trivial, ?_⟩
    refine (callsIn_wide.2 (splitSeq_any s _)).mono ?_
    rintro e w' ⟨rfl, rfl⟩
    gi_wp2
    obtain ⟨W0, hW0⟩ : ∃ W0, ((((((w.alloc (Obj.cells #[Value.slice none 0 0] 40)).alloc (Obj.cells #[Value.int IntKind.i64 0] 29)).alloc (Obj.cells #[Value.slice none 0 0] 40)).alloc (Obj.cells #[Value.string s] 9)).alloc (Obj.cells #[Value.string { data := #[59] }] 9)).alloc (Obj.cells #[Value.int IntKind.i64 0] 3)) = W0 := ⟨_, rfl⟩
    rw [hW0]
    have hI0 : LInv w.heap.size w ([], s) W0 := by
      rw [← hW0]
      exact ⟨((((((Below.refl _ w).alloc (Nat.le_refl _) _).alloc (by simp) _).alloc (by simp; omega) _).alloc (by simp; omega) _).alloc (by simp; omega) _).alloc (by simp; omega) _, by simp,
        (((((box_at rfl 40 _).alloc _).alloc _).alloc _).alloc _).alloc _, ((((box_at (by simp) 29 _).alloc _).alloc _).alloc _).alloc _, ((box_at (by simp) 9 _).alloc _).alloc _, (box_at (by simp) 9 _).alloc _, box_at (by simp) 3 _,
        ⟨.slice none 0 0, (((box_at (by simp) 40 _).alloc _).alloc _).alloc _, World.ownsRow_nil _ _ _ _⟩, rfl, by simp [listGo]⟩
    have hz0 : w.heap.size + 6 ≤ W0.heap.size := hI0.size
    have hEv := hE.size
    have hEv2 := And.intro hE.size (var_lt gTab hE.tab)
    clear hW0
    refine range_own (by omega) (gf := 188) (lb := #[.pointer (some ⟨w.heap.size + 3 + 1, 0, none⟩), .pointer (some ⟨w.heap.size + 3, 0, none⟩), .pointer (some ⟨w.heap.size + 3 + 2, 0, none⟩)]) rfl (enters_of Tryz.func188 (by kernel_rfl) rfl) (w.heap.size + 3) (by omega)
      (fun st x => ∃ rest, splitL (lst s) = st.1 ++ lst x :: rest) (fun st x => (st.1 ++ [lst x], st.2)) (fun st => st.1 = splitL (lst s)) (LInv w.heap.size w) (LErr w.heap.size w (lst s)) ([], s)
      (split_iter _ (w.heap.size + 3) s (by omega) _ (fun st W h => h.vars) (fun st r W h => h.turn (Nat.le_refl _) r)) rfl (LInv.own (Nat.le_refl _) hz0) (LErr.own (Nat.le_refl _) hz0) hI0
      (fun x => { tmps := #[.string s, undef, .pointer (some ⟨w.heap.size, 0, none⟩), .pointer (some ⟨w.heap.size + 1, 0, none⟩), .pointer (some ⟨w.heap.size + 1 + 1, 0, none⟩), .string x, undef, undef, undef, .string s, .bool false, .string s,
        .func (.func 188) #[] #[.pointer (some ⟨w.heap.size + 1 + 1 + 1 + 1, 0, none⟩), .pointer (some ⟨w.heap.size + 1 + 1 + 1, 0, none⟩), .pointer (some ⟨w.heap.size + 1 + 1 + 1 + 2, 0, none⟩)],
        .string x, undef, undef, undef, undef, undef, undef, undef, undef, undef, undef, undef, undef, undef, undef, undef, undef, undef, undef, undef, undef], defers := [] }) ?assign ?body ?done ?stop
    case assign =>
      intro l x W K hK
      gi_wp2
      exact hK
    case body =>
      rintro l ⟨pre, r⟩ x W hI ⟨rest, hrest⟩
      obtain ⟨v, hv, hrow⟩ := hI.acc
      have hok := hI.ok
      have h64 := hI.len
      dsimp only at hrow hok h64 hrest ⊢
      obtain ⟨A, c, hvA, hc1, hc2, hin⟩ := hrow.strsIn
      subst hvA
      have hxs : x.size < 4294967281 := by
        have := splitL_mem (lst s) (lst x) (by rw [hrest]; simp)
        rw [show (lst x).length = x.size from (Lib.size_eq x).symm, show (lst s).length = s.size from (Lib.size_eq s).symm] at this
        omega
      obtain ⟨L, hL⟩ : ∃ L, (listGo pre []).1 = L := ⟨_, rfl⟩
      have hgo : ∀ qs, listGo (pre ++ qs) [] = listGo qs L := fun qs => by rw [listGo_app _ _ _ hok, hL]
      rw [hL] at hrow hc1 hin hv h64
      have hB := hI.below
      have hEW : Env W := env_grown hE hI.below hEv2
      have cP := readPart_any x (64 - (L.length : Int)) hxs (by omega) W hEW
      obtain ⟨⟨l2, e2⟩, hR⟩ : ∃ R, partM (lst x) (64 - (L.length : Int)) = R := ⟨_, rfl⟩
      rw [hR] at cP
      have hcell := hv.cell
      have HRow := hid hrow
      have HIn := hid hin
      have HGo := hid hgo
      have HOk := hid hok
      clear hrow hin hgo hL hok hEW
      by_cases h2 : e2 = 0
      · subst h2
        have hpo := partM_ok (lst x) (64 - (L.length : Int)) (by rw [hR])
        rw [hR] at hpo
        obtain ⟨hp1, hp2⟩ := hpo
        dsimp only at hp1 hp2
        gi_wp2_with fail
        refine ⟨trivial, ?_⟩
        refine (CallsIn.inRound l (callsIn_wide.2 cP)).mono ?_
        rintro e W2 ⟨⟨v2, rfl, hrow2⟩, hb2⟩
        obtain ⟨m, hm⟩ : ∃ m, l2.length = m + 1 := ⟨l2.length - 1, by omega⟩
        have hq := hrow2
        unfold StrRow at hq
        dsimp only at hq
        rw [hm] at hq
        obtain ⟨g, cap, rfl⟩ := ownsRow_succ hq
        have hv2 := Boxed.under hv hb2
        have hcell2 := hv2.cell
        have hrowW2 : StrRow W2 (w.heap.size + 6) (.slice A L.length c) L := row_under HRow.out hb2
        have hcs : ∀ j u, (strVals l2)[j]? = some u → W2.cell? ((⟨g, 0, none⟩ : Addr).add j) = some u := World.ownsRow.cells hq rfl
        have hone : ∀ u ∈ strVals l2, u.oneCell' = true := by
          intro u hu
          obtain ⟨a, _, rfl⟩ := List.mem_map.1 hu
          rfl
        have hsz6 : w.heap.size + 6 ≤ W2.heap.size := by have := hI.size; have := hb2.size; omega
        have hnl : (strVals l2).length = (m + 1) * 1 := by rw [strVals_len, hm]; omega
        have hmx : L.length + (m + 1) ≤ maxLen := by unfold maxLen; omega
        have hby : (L.length + (m + 1)) * 16 ≤ 140737488355328 := by omega
        obtain ⟨i9, hi9, hz9, hsi9, hby9⟩ := info_parts infoStr
        have HRow2 := hid hrowW2
        have HCs := hid hcs
        have HOne := hid hone
        have HQ := hid hq
        have HNl := hid hnl
        have HMx := hid hmx
        have HBy := hid hby
        have H6 := hid hsz6
        clear hrow2 hq hrowW2 hcs hone hnl hmx hby hsz6
        gi_wp2_with (gi_at_builtin; refine wpListIn_append_own _ rfl _ _ 40 rfl (w.heap.size + 6) 9 i9 (.string ⟨#[]⟩) 1 16 Tryz.underlying40 hi9 hz9 hsi9 hby9 rfl (by decide) _ L.length (strVals L) rfl HRow2.out ⟨g, 0, none⟩ (m + 1) cap (strVals l2) rfl HNl.out HCs.out HOne.out HMx.out HBy.out H6.out ?_)
        intro v' w3 hown' hgrow _
        obtain ⟨g', cap', rfl⟩ := ownsRow_succ (k := L.length + m) hown'
        have hv3 : Boxed w3 (w.heap.size + 2) 40 (.slice A L.length c) := hv2.kept hgrow (fun e => by have := HRow2.out.lt _ e.symm; omega)
        have hcell3 := hv3.cell
        have hfz3 := hv3.frozen
        have hown2 : StrRow w3 (w.heap.size + 6) (.slice (some ⟨g', 0, none⟩) (L.length + m + 1) cap') (L ++ l2) := by
          unfold StrRow
          rw [strVals_app, List.length_append, hm]
          exact hown'
        gi_wp2
        obtain ⟨i1, i2⟩ := LInv.step hI (Nat.le_refl _) hb2 hv HRow2.out hgrow hown2 (x := lst x) (by rw [HGo.out]; simp [listGo, hR]) (by simp; omega) W0.heap.size
        exact ⟨i2, i1⟩
      · have hgo2 : listGo (splitL (lst s)) [] = ([], e2) := by rw [hrest, HGo.out]; simp [listGo, hR, h2]
        have HGo2 := hid hgo2
        clear hgo2
        gi_wp2_with fail
        refine ⟨trivial, ?_⟩
        refine (CallsIn.inRound l (callsIn_wide.2 cP)).mono ?_
        rintro e W2 ⟨⟨v2, rfl, hrow2⟩, hb2⟩
        clear hrow2
        have k1 := Boxed.under hI.r1 hb2
        have k2 := Boxed.under hI.r2 hb2
        have f1 := k1.frozen
        have f2 := k2.frozen
        have g1 := k1.cell
        have g2 := k2.cell
        gi_wp2
        have q1 := grownBy_setCell' W2 w.heap.size (.slice none 0 0)
        have q2 := grownBy_setCell' (W2.setCell ⟨w.heap.size, 0, none⟩ (.slice none 0 0)) (w.heap.size + 1) (.int .i64 e2)
        have hne' : ∀ a b : Nat, a ≠ b → some a ≠ some b := fun a b h e => h (by injection e)
        refine ⟨(((keeps_below hb2).trans (KeepsOthers.setCell _ _ _)).trans (KeepsOthers.setCell _ _ _)).from _, ⟨?_, e2, by rw [HGo2.out], h2, (k1.set _).kept q2 (hne' _ _ (by omega)), (k2.kept q1 (hne' _ _ (by omega))).set _⟩⟩
        have hz2 := hb2.size
        have hzW := hI.size
        exact ((hB.trans (hb2.mono (by omega))).grown q1 (by omega) (fun k e => by injection e; omega)).grown q2 (by have := q1.size; omega) (fun k e => by injection e; omega)
    case done =>
      rintro D ⟨pre, r⟩ W hD hfin hI hK
      obtain ⟨v, hv, hrow⟩ := hI.acc
      have hok := hI.ok
      have h64 := hI.len
      dsimp only at hfin hrow hok h64
      rw [hfin] at hrow hok h64
      obtain ⟨A, c, hvA, hc1, hc2, hin⟩ := hrow.strsIn
      subst hvA
      have hM : listM (lst s) = if checkM (listGo (splitL (lst s)) []).1 ≠ 0 then ([], checkM (listGo (splitL (lst s)) []).1) else ((listGo (splitL (lst s)) []).1, 0) := by
        unfold listM
        rw [if_neg hne, if_neg (by rw [hok]; simp)]
      obtain ⟨L, hL⟩ : ∃ L, (listGo (splitL (lst s)) []).1 = L := ⟨_, rfl⟩
      rw [hL] at hM hrow hc1 hin hv h64
      have cC := check_any A L c _ W hin hc1 hc2
      have hcell := hv.cell
      have f1 := hI.r1.frozen
      have f2 := hI.r2.frozen
      have g1 := hI.r1.cell
      have g2 := hI.r2.cell
      have hBelow := hI.below
      by_cases hk : checkM L = 0
      · rw [if_neg (by simpa using hk)] at hM
        rw [hk] at cC
        gi_wp2_with fail
        refine ⟨trivial, ?_⟩
        refine (callsIn_wide.2 cC).mono ?_
        rintro e w' ⟨rfl, rfl⟩
        gi_wp2
        obtain ⟨k0, k1, k2, k3, k4⟩ := list_end (v := .slice A L.length c) (e := .int .i64 0) hI.r1 hI.r2 (D := D) (by omega) hK
        refine ⟨by simp, .inl ⟨_, _, rfl, run_takeDeferred k0, ?_⟩⟩
        refine ⟨_, results_cc rfl _ _ _ _ _ _ _ rfl rfl (loadStrs k1.cell) (loadErr k2.cell), ?_⟩
        rw [hM]
        exact ⟨⟨_, rfl, StrRow.mono (k4 _ _ _ hrow) (by omega)⟩, hBelow.trans k3⟩
      · rw [if_pos hk] at hM
        obtain ⟨e0, he0⟩ : ∃ e0, checkM L = e0 := ⟨_, rfl⟩
        rw [he0] at cC hM hk
        gi_wp2_with fail
        refine ⟨trivial, ?_⟩
        refine (callsIn_wide.2 cC).mono ?_
        rintro e w' ⟨rfl, rfl⟩
        gi_wp2
        obtain ⟨k0, k1, k2, k3, k4⟩ := list_end (v := .slice none 0 0) (e := .int .i64 e0) hI.r1 hI.r2 (D := D) (by omega) hK
        refine ⟨by simp, .inl ⟨_, _, rfl, run_takeDeferred k0, ?_⟩⟩
        refine ⟨_, results_cc rfl _ _ _ _ _ _ _ rfl rfl (loadStrs k1.cell) (loadErr k2.cell), ?_⟩
        rw [hM]
        exact ⟨⟨_, rfl, World.ownsRow_nil _ _ _ _⟩, hBelow.trans k3⟩
    case stop =>
      rintro D W hD ⟨hb, e, he, hne0, h1, h2⟩ hK
      have hM : listM (lst s) = ([], e) := by
        unfold listM
        rw [if_neg hne, if_pos (by rw [he]; exact hne0), he]
      have hg3 := grownBy_putObj' W D (.deferred none)
      have hne' : ∀ a b : Nat, a ≠ b → some a ≠ some b := fun a b h e => h (by injection e)
      gi_wp2
      refine ⟨by simp, .inl ⟨_, _, rfl, run_takeDeferred hK, ?_⟩⟩
      refine ⟨_, results_cc rfl _ _ _ _ _ _ _ rfl rfl (loadStrs (h1.kept hg3 (hne' _ _ (by omega))).cell) (loadErr (h2.kept hg3 (hne' _ _ (by omega))).cell), ?_⟩
      rw [hM]
      exact ⟨⟨_, rfl, World.ownsRow_nil _ _ _ _⟩, hb.grown hg3 hb.size (fun k e => by injection e; omega)⟩
  · obtain ⟨x1, x2, x3, x4⟩ := str_yes h0
    have hnil := lst_nil h0
    have hM : listM (lst s) = ([], 0) := by rw [hnil]; rfl
    gi_wp2
    refine ⟨_, results_cc rfl _ _ _ _ _ _ _ rfl rfl (loadStrs (x := .slice none 0 0) ?_) (loadErr (x := .int .i64 0) ?_), ?_⟩
    · simp
    · simp
    · rw [hM]
      exact ⟨⟨_, rfl, World.ownsRow_nil _ _ _ _⟩, ((Below.refl _ w).alloc (Nat.le_refl _) _).alloc (by simp) _⟩
theorem baOf {R : ByteArray} {l : Str} (h : lst R = l) : R = ba l := by
  rw [← h]; cases R; rfl
structure AK (w W1 wr : World) : Prop where
  b : Below w.heap.size w wr
  c : Below W1.heap.size W1 wr
theorem AK.step {w W1 wr w2 : World} (h : AK w W1 wr) (hb : Below wr.heap.size wr w2) : AK w W1 w2 := ⟨h.b.trans (hb.mono h.b.size), h.c.trans (hb.mono h.c.size)⟩
theorem AK.drew {w W1 wr : World} (h : AK w W1 wr) : AK w W1 wr.drew := ⟨h.b.drew, h.c.drew⟩
theorem AK.at_ {w W1 wr : World} (h : AK w W1 wr) {b off : Nat} {v : Value} (hb : b < W1.heap.size) (hc : W1.cell? ⟨b, off, none⟩ = some v) : wr.cell? ⟨b, off, none⟩ = some v :=
  (h.c.cell (p := ⟨b, off, none⟩) hb).trans hc
set_option maxHeartbeats 12000000 in
set_option maxRecDepth 100000 in
theorem ahead_any (A : Option Addr) (f : Str) (r : List Str) (c : Nat) (Pp : Nat → Prop) (w : World) (h : StrsIn w Pp A (f :: r)) (hPp : ∀ b, Pp b → b < w.heap.size) (h64 : r.length < 64) (hf : f.length ≤ 16) (hE : Env w) :
    Calls Tryz.prog 101 #[.slice A (r.length + 1) c] w fun e w' => e = .returned (.int .i64 (aheadM (f :: r) : Nat)) ∧ Below w.heap.size w w' := by
  rcases h with h | ⟨b, off, rfl, hb, hc⟩
  · cases h
  have cD := divide_any (ba f) hf w hE
  have c0 : w.cell? ⟨b, off, none⟩ = some (.string (ba f)) := hc 0 f rfl
  have hbl := hPp b hb
  have HC := hid hc
  have HE := hid hE
  have ho := (last_len f hf)
  have hnum := numL_small f hf
  obtain ⟨ANS, hANS⟩ : ∃ ANS, aheadM (f :: r) = ANS := ⟨_, rfl⟩
  rw [hANS]
  have HANS := hid hANS
  clear hc hE hANS
  go_enter Tryz.func101, Tryz.ntmps101
  go_wp2_with fail
  refine cD.mono ?_
  rintro e w1 ⟨⟨P, rfl, hP⟩, hb1⟩
  have hPs : P.size ≤ 16 := by rw [show P.size = (lst P).length from Lib.size_eq P, hP]; exact ho.2
  unfold divV
  rw [show lst (ba f) = f from rfl] at hP ⊢
  obtain ⟨nA, hnA⟩ : ∃ n, numL f = n := ⟨_, rfl⟩
  obtain ⟨wA, hwA⟩ : ∃ n, (lastS f).length = n := ⟨_, rfl⟩
  rw [hnA, hwA]
  rw [hnA] at hnum
  rw [hwA] at ho
  have HB1 := hid hb1
  obtain ⟨W1, hW1⟩ : ∃ W1, w1.alloc (.cells #[.string P, .int .i64 (nA : Int), .int .i64 (wA : Int)] 158) = W1 := ⟨_, rfl⟩
  have hz : W1.heap[w1.heap.size]? = some (.cells #[.string P, .int .i64 (nA : Int), .int .i64 (wA : Int)] 158 (0, 0)) := by rw [← hW1]; exact heap_alloc_new w1 _
  have hbW : Below w1.heap.size w1 W1 := by rw [← hW1]; exact (Below.refl _ w1).alloc (Nat.le_refl _) _
  have hlt1 : w1.heap.size < W1.heap.size := (Array.getElem?_eq_some_iff.1 hz).1
  have hbl1 : b < W1.heap.size := by have := hb1.size; omega
  have z0 : W1.cell? ⟨w1.heap.size, 0, none⟩ = some (.string P) := by rw [Lib.cell_of_heap hz]; rfl
  have z1 : W1.cell? ⟨w1.heap.size, 1, none⟩ = some (.int .i64 (nA : Int)) := by rw [Lib.cell_of_heap hz]; rfl
  have z2 : W1.cell? ⟨w1.heap.size, 2, none⟩ = some (.int .i64 (wA : Int)) := by rw [Lib.cell_of_heap hz]; rfl
  have HCW : Hid (∀ (i : Nat) (s : Str), (f :: r)[i]? = some s → W1.cell? ⟨b, off + i, none⟩ = some (.string (ba s))) := hid (fun i s hi =>
    (hbW.cell (p := ⟨b, off + i, none⟩) (by show b < w1.heap.size; have := hb1.size; omega)).trans ((hb1.cell (p := ⟨b, off + i, none⟩) hbl).trans (HC.out i s hi)))
  have HKW : Hid (AK w W1 W1) := hid ⟨hb1.trans (hbW.mono hb1.size), Below.refl _ _⟩
  have Z0 := hid z0
  have Z1 := hid z1
  have Z2 := hid z2
  clear hz z0 z1 z2 cD hbW
  obtain ⟨ok, hok⟩ : ∃ ok, hasL f = ok := ⟨_, rfl⟩
  have HA : Hid (aheadM (f :: r) = if ok = true then aheadGo f 1 r else 1) := hid (by show (if hasL f = true then aheadGo f 1 r else 1) = _; rw [hok])
  rw [HANS.out] at HA
  rw [hok]
  have HNT : Hid (∀ i, nthS f i = lst P ++ wrS (nA + i) wA) := hid (fun i => by unfold nthS; rw [hP, hnA, hwA])
  clear hok hnA hwA hP HANS
  go_wp2
  clear hW1
  go_loopw [3] (fun iv wr => ∃ i : Nat, iv = .int .i64 (i : Int) ∧ 1 ≤ i ∧ i ≤ r.length + 1 ∧ Hid (AK w W1 wr) ∧ Hid (ANS = if ok = true then aheadGo f i (r.drop (i - 1)) else i)) (fun iv _ => r.length + 1 - (RowKit.intOf iv).toNat)
  case atStart => exact ⟨1, rfl, by omega, by omega, HKW, hid (by rw [HA.out]; rfl)⟩
  case round =>
    obtain ⟨i, rfl, hi1, hi2, hK, hAns⟩ := hrel
    cases ok with
    | false =>
      have hr : Hid (ANS = i) := hid (by rw [hAns.out]; simp)
      go_wp2_with fail
      go_quiet (fail)
      go_wp2_with fail
      go_ret
      exact ⟨by rw [hr.out]; rfl, below_drewN hK.out.b _⟩
    | true =>
      have hr : Hid (ANS = aheadGo f i (r.drop (i - 1))) := hid (by rw [hAns.out]; simp)
      clear hAns HA
      by_cases hlt : i < r.length + 1
      · obtain ⟨j, hj⟩ : ∃ j, i = j + 1 := ⟨i - 1, by omega⟩
        have HJ := hid hj
        obtain ⟨s, hs⟩ : ∃ s, r[j]? = some s := ⟨_, List.getElem?_eq_getElem (by omega)⟩
        have hcell := HCW.out i s (by rw [hj, List.getElem?_cons_succ]; exact hs)
        have hstep : Hid (ANS = if s = nthS f i then aheadGo f (i + 1) (r.drop i) else i) := hid (by
          rw [hr.out, hj, show j + 1 - 1 = j by omega, List.drop_eq_getElem_cons (show j < r.length by omega)]
          rw [List.getElem?_eq_getElem (by omega)] at hs
          rw [Option.some.inj hs]
          rfl)
        have c63 : Hid (∀ wx, AK w W1 wx → Calls Tryz.prog 127 #[.agg #[.string P, .int .i64 (nA : Int), .int .i64 (wA : Int)], .int .i64 (i : Int)] wx fun e w' => e = .returned (.string (ba (nthS f i))) ∧ AK w W1 w') := hid (fun wx h => by
          have := after_any P nA wA i hPs (by omega) ho.1 wx (HE.out.below h.b)
          exact this.mono fun e w' ⟨⟨R, he, hl⟩, hb⟩ => ⟨by rw [he, baOf hl, HNT.out], h.step hb⟩)
        have hk := hK.out
        have q0 := hk.at_ hlt1 Z0.out
        have q1 := hk.at_ hlt1 Z1.out
        have q2 := hk.at_ hlt1 Z2.out
        have h0 := hk.at_ hbl1 hcell
        have hiz : (i : Int) < (r.length : Int) + 1 := by omega
        have hid1 : decide ((i : Int) < (r.length : Int) + 1) = true := decide_eq_true hiz
        have hid2 : decide (i < r.length + 1) = true := decide_eq_true hlt
        clear hj
        obtain ⟨S, hS⟩ : ∃ S, ba s = S := ⟨_, rfl⟩
        obtain ⟨T, hT⟩ : ∃ T, ba (nthS f i) = T := ⟨_, rfl⟩
        rw [hS] at hcell h0
        rw [hT] at c63
        rcases str_eq (a := S) (b := T) with ⟨he, t1, t2⟩ | ⟨he, t1, t2⟩
        · have hst : Hid (ANS = aheadGo f (i + 1) (r.drop i)) := hid (by
            rw [hstep.out, if_pos]
            rw [← hS, ← hT] at he
            exact he)
          have hk' : AK w W1 wr.drew := hK.out.drew
          have HCELL := hid hcell
          clear hS hT hK hr hstep hs he hcell h0 q0 q1 q2 hk
          go_wp2_with fail
          go_region_held3 (fun w' => w'.cell? ⟨w1.heap.size, 0, none⟩ = some (.string P) ∧ w'.cell? ⟨w1.heap.size, 1, none⟩ = some (.int .i64 (nA : Int)) ∧ w'.cell? ⟨w1.heap.size, 2, none⟩ = some (.int .i64 (wA : Int)) ∧ w'.cell? ⟨b, off + i, none⟩ = some (.string S))
            (first | exact ⟨hk'.at_ hlt1 Z0.out, hk'.at_ hlt1 Z1.out, hk'.at_ hlt1 Z2.out, hk'.at_ hbl1 HCELL.out⟩)
            (first | (go_at_call 127; refine (c63.out _ hk').mono ?_; rintro e w' ⟨rfl, hk'⟩))
          all_goals
            have HK' := hid hk'
            clear hk' c63
            go_wp2_with fail
            go_roundw
            case rel => exact ⟨i + 1, by go_num, by omega, by omega, HK'.out |> hid, hid (by rw [hst.out]; rfl)⟩
            case measure => simp [RowKit.intOf]; omega
        · have hst : Hid (ANS = i) := hid (by
            rw [hstep.out, if_neg]
            rw [← hS, ← hT] at he
            exact he)
          have hk' : AK w W1 wr.drew := hK.out.drew
          have HCELL := hid hcell
          clear hS hT hK hr hstep hs he hcell h0 q0 q1 q2 hk
          go_wp2_with fail
          go_region_held3 (fun w' => w'.cell? ⟨w1.heap.size, 0, none⟩ = some (.string P) ∧ w'.cell? ⟨w1.heap.size, 1, none⟩ = some (.int .i64 (nA : Int)) ∧ w'.cell? ⟨w1.heap.size, 2, none⟩ = some (.int .i64 (wA : Int)) ∧ w'.cell? ⟨b, off + i, none⟩ = some (.string S))
            (first | exact ⟨hk'.at_ hlt1 Z0.out, hk'.at_ hlt1 Z1.out, hk'.at_ hlt1 Z2.out, hk'.at_ hbl1 HCELL.out⟩)
            (first | (go_at_call 127; refine (c63.out _ hk').mono ?_; rintro e w' ⟨rfl, hk'⟩))
          all_goals
            go_wp2_with fail
            go_ret
            exact ⟨by rw [hst.out]; rfl, hk'.b⟩
      · obtain rfl : i = r.length + 1 := by omega
        have hr2 : Hid (ANS = r.length + 1) := hid (by rw [hr.out, List.drop_of_length_le (by omega)]; rfl)
        have hd1 : decide ((r.length : Int) + 1 < (r.length : Int) + 1) = false := decide_eq_false (by omega)
        go_wp2_with fail
        go_quiet (fail)
        go_wp2_with fail
        go_ret
        exact ⟨by rw [hr2.out]; rfl, below_drewN hK.out.b _⟩
end Go.Proofs.YtlgmanbilaminaaGreatDoor.S3
