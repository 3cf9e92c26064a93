/-
  Sorting starts: compareStarts, slices.SortFunc at starts of the call's own. Condition: at most 1000 starts.
  What holds while a list is read part by part (ReadParts of package entries), at whatever element. Conditions: as stated.
  Reading sets of weeks, part by part: ReadParts at ints. Conditions: the text is below 2^32 bytes; what the closure does with a part, in every world that the call passes through.
  Reading sets of weeks: hasEqual at ints, the closure that reads a part, readPatterns. Conditions: the variables hold what their text lays; the text is below 2^32 bytes.
-/
import Derived.Test.YtigdcgklpapfbaaGreatDoorVR18
import Derived.Test.YtigdcgklpapfbaaGreatDoorVR19
set_option linter.unusedVariables false
namespace Go.Proofs.YtigdcgklpapfbaaGreatDoor.S10
open Go Go.Proofs Go.RowKit Go.Lib Go.Proofs.YtigdcgklpapfbaaGreatDoor
open Go.Sort

def cmpS (a b : StartD) : Int := S3.orI (Lib.compareInt a.1 b.1) (Lib.compareInt a.2 b.2)
theorem ltS_eq (a b : StartD) : ltOf cmpS a b = decide (a.1 < b.1 ∨ (a.1 = b.1 ∧ a.2 < b.2)) := by
  unfold ltOf cmpS S3.orI Lib.compareInt
  by_cases h1 : a.1 < b.1
  · simp [h1]
  · by_cases h2 : b.1 < a.1
    · simp [h1, h2]; omega
    · have h3 : a.1 = b.1 := by omega
      by_cases h4 : a.2 < b.2
      · simp [h3, h4]
      · by_cases h5 : b.2 < a.2 <;> simp [h3, h4, h5]
theorem swoS : SWO (ltOf cmpS) where
  irrefl x := by rw [ltS_eq]; simp
  trans x y z h1 h2 := by rw [ltS_eq] at *; simp at *; omega
  ntrans x y z h1 h2 := by rw [ltS_eq] at *; simp at *; omega
theorem totS (x y : StartD) (h1 : ltOf cmpS x y = false) (h2 : ltOf cmpS y x = false) : x = y := by
  rw [ltS_eq] at h1 h2
  simp at h1 h2
  exact Prod.ext (by omega) (by omega)
theorem leS_eq : (fun x y : StartD => !(ltOf cmpS) y x) = leS := by
  funext x y
  unfold leS
  rw [ltS_eq, ← decide_not]
  apply decide_eq_decide.2
  omega

set_option maxHeartbeats 4000000 in
set_option maxRecDepth 100000 in
theorem compareStarts_any (a b : StartD) (w : World) : Calls Tryz.prog 115 #[.agg #[.int .i64 a.1, .int .i64 a.2], .agg #[.int .i64 b.1, .int .i64 b.2]] w fun e w' => e = .returned (.int .i64 (cmpS a b)) ∧ ∃ q os', w' = grow (w.drewN q) os' := by
  obtain ⟨a1, a2⟩ := a
  obtain ⟨b1, b2⟩ := b
  unfold cmpS
  dsimp only
  have c1 := fun w => Tryz.cmp_Compare_int a1 b1 w
  have c2 := fun w => Tryz.cmp_Compare_int a2 b2 w
  obtain ⟨x, hx⟩ : ∃ x, Lib.compareInt a1 b1 = x := ⟨_, rfl⟩
  obtain ⟨y, hy⟩ : ∃ y, Lib.compareInt a2 b2 = y := ⟨_, rfl⟩
  rw [hx] at c1 ⊢
  rw [hy] at c2 ⊢
  have C1 := hid c1
  have C2 := hid c2
  clear c1 c2 hx hy
  obtain ⟨wx, hwx⟩ : ∃ wx, (w.alloc (.cells #[.int .i64 a1, .int .i64 a2] 74)).alloc (.cells #[.int .i64 b1, .int .i64 b2] 74) = wx := ⟨_, rfl⟩
  have hs : (w.alloc (.cells #[.int .i64 a1, .int .i64 a2] 74)).heap.size = w.heap.size + 1 := by simp
  have e1 := heap_alloc_new (w.alloc (.cells #[.int .i64 a1, .int .i64 a2] 74)) (.cells #[.int .i64 b1, .int .i64 b2] 74)
  have e0 := (((Below.refl _ _).alloc (Nat.le_refl _) (.cells #[.int .i64 b1, .int .i64 b2] 74)).block w.heap.size (by rw [hs]; omega)).trans (heap_alloc_new w (.cells #[.int .i64 a1, .int .i64 a2] 74))
  rw [hs] at e1
  rw [hwx] at e0 e1
  have p0 : wx.cell? ⟨w.heap.size, 0, none⟩ = some (.int .i64 a1) := by rw [Lib.cell_of_heap e0]; rfl
  have p1 : wx.cell? ⟨w.heap.size, 1, none⟩ = some (.int .i64 a2) := by rw [Lib.cell_of_heap e0]; rfl
  have q0 : wx.cell? ⟨w.heap.size + 1, 0, none⟩ = some (.int .i64 b1) := by rw [Lib.cell_of_heap e1]; rfl
  have q1 : wx.cell? ⟨w.heap.size + 1, 1, none⟩ = some (.int .i64 b2) := by rw [Lib.cell_of_heap e1]; rfl
  have HWX := hid hwx
  clear hwx hs e0 e1
  go_enter Tryz.func115, Tryz.ntmps115
  go_wp2
  rw [HWX.out]
  have k0 : (wx.alloc (.cells #[.int .i64 x, .int .i64 y] 3)).cell? ⟨wx.heap.size, 0, none⟩ = some (.int .i64 x) := by rw [Lib.cell_of_heap (heap_alloc_new _ _)]; rfl
  have k1 : (wx.alloc (.cells #[.int .i64 x, .int .i64 y] 3)).cell? ⟨wx.heap.size, 1, none⟩ = some (.int .i64 y) := by rw [Lib.cell_of_heap (heap_alloc_new _ _)]; rfl
  have hK : wx.cell? ⟨w.heap.size, 0, none⟩ = some (.int .i64 a1) ∧ wx.cell? ⟨w.heap.size, 1, none⟩ = some (.int .i64 a2) ∧ wx.cell? ⟨w.heap.size + 1, 0, none⟩ = some (.int .i64 b1) ∧ wx.cell? ⟨w.heap.size + 1, 1, none⟩ = some (.int .i64 b2) := ⟨p0, p1, q0, q1⟩
  have hK' : (wx.alloc (.cells #[.int .i64 x, .int .i64 y] 3)).cell? ⟨w.heap.size, 0, none⟩ = some (.int .i64 a1) ∧ (wx.alloc (.cells #[.int .i64 x, .int .i64 y] 3)).cell? ⟨w.heap.size, 1, none⟩ = some (.int .i64 a2) ∧ (wx.alloc (.cells #[.int .i64 x, .int .i64 y] 3)).cell? ⟨w.heap.size + 1, 0, none⟩ = some (.int .i64 b1) ∧ (wx.alloc (.cells #[.int .i64 x, .int .i64 y] 3)).cell? ⟨w.heap.size + 1, 1, none⟩ = some (.int .i64 b2) :=
    ⟨Lib.cell?_alloc_some _ p0, Lib.cell?_alloc_some _ p1, Lib.cell?_alloc_some _ q0, Lib.cell?_alloc_some _ q1⟩
  have HK := hid hK
  have HK' := hid hK'
  clear hK hK'
  go_region_held3 (fun w' => w'.cell? ⟨w.heap.size, 0, none⟩ = some (.int .i64 a1) ∧ w'.cell? ⟨w.heap.size, 1, none⟩ = some (.int .i64 a2) ∧ w'.cell? ⟨w.heap.size + 1, 0, none⟩ = some (.int .i64 b1) ∧ w'.cell? ⟨w.heap.size + 1, 1, none⟩ = some (.int .i64 b2))
    (first | with_reducible exact HK.out | exact HK.out | exact HK'.out)
    (first
      | (go_at_call_of 154 a1; (with_reducible refine (C1.out _).mono ?_); rintro e wq ⟨rfl, rfl⟩)
      | (go_at_call_of 154 a2; (with_reducible refine (C2.out _).mono ?_); rintro e wq ⟨rfl, rfl⟩)
      | (go_at_call 153; (refine (S3.or_any _ _ x y _ (by exact k0) (by exact k1)).mono ?_); rintro e wq ⟨rfl, rfl⟩))
  all_goals
    go_wp2
    go_ret
    exact ⟨rfl, 1, _, by rw [← HWX.out]; simp only [alloc_eq_grow, drew_grow, grow_grow]; rfl⟩

/-! ### the sort -/
theorem flat_starts (l : List StartD) : flatK startVs 2 l.toArray = (startVals l).toArray := by
  refine Go.Sort.ext_get! (by simp [startVals_len]) fun t ht => ?_
  rw [Go.Sort.size_flatK] at ht
  rw [Go.Sort.get_flatK _ _ _ _ ht]
  have hl : t / 2 < l.length := by simp at ht; omega
  have h2 : t % 2 < 2 := Nat.mod_lt _ (by omega)
  have hv : (startVs l[t / 2])[t % 2]? = some ((startVs l[t / 2])[t % 2]'h2) := List.getElem?_eq_getElem h2
  have := startVals_get l (t / 2) _ (List.getElem?_eq_getElem hl) (t % 2) _ hv
  rw [show t / 2 * 2 + t % 2 = t by omega] at this
  have e1 : (l.toArray)[t / 2]! = l[t / 2] := by simp [hl]
  rw [e1]
  have e2 : (startVals l).toArray[t]! = (startVs l[t / 2])[t % 2]'h2 := by
    rw [Array.getElem!_eq_getD, Array.getD_eq_getD_getElem?]
    simp [this]
  rw [e2]
  rw [getElem!_pos (startVs l[t / 2]) (t % 2) h2]
theorem holds_starts {w : World} {g : Nat} {cur : Array Value} {e : TypeId} {l : List StartD} (hb : w.heap[g]? = some (.cells cur e (0, 0))) (ht : cur.toList.take (l.length * 2) = startVals l) : HoldsK startVs 2 w g 0 l.toArray := by
  unfold HoldsK
  rw [flat_starts]
  intro j hj
  have hj' : j < (startVals l).length := by simpa using hj
  refine ⟨?_, by simp [World.frozen?, hb]⟩
  have hl := startVals_len l
  have h1 : (cur.toList.take (l.length * 2))[j]? = (startVals l)[j]? := by rw [ht]
  rw [List.getElem?_take_of_lt (by omega)] at h1
  simp only [World.cell?, hb, Nat.zero_add]
  simp only [Option.isSome_none, Bool.false_eq_true, if_false]
  rw [← Array.getElem?_toList, h1]
  simp [hj']
theorem heap_put {w : World} {g n : Nat} {os : Array Obj} {cur : Array Value} {e : TypeId} {fr : Nat × Nat} (F : Array Value) (hb : w.heap[g]? = some (.cells cur e fr)) :
    (grow (putRow id (Sort.ahead w n) g 0 F) os).heap[g]? = some (.cells (putCells id 0 F cur) e fr) := by
  have hg : g < w.heap.size := (Array.getElem?_eq_some_iff.1 hb).1
  rw [Go.Sort.heap_grow_old _ _ (by simpa [putRow, Go.Sort.mapBlock, Sort.ahead] using hg)]
  simp [putRow, Go.Sort.mapBlock, Sort.ahead, Array.getElem?_modify, hb, Go.Sort.onCells]
theorem grownBy_put {w : World} {g n : Nat} {os : Array Obj} (F : Array Value) : w.grownBy (grow (putRow id (Sort.ahead w n) g 0 F) os) (some g) := by
  refine ⟨rfl, rfl, rfl, by simp [putRow, Go.Sort.mapBlock, Sort.ahead], fun k hk hne => ?_⟩
  rw [Go.Sort.heap_grow_old _ _ (by simpa [putRow, Go.Sort.mapBlock, Sort.ahead] using hk)]
  have : g ≠ k := fun e => hne (by rw [e])
  simp [putRow, Go.Sort.mapBlock, Sort.ahead, Array.getElem?_modify, this]
theorem take_put (cur : Array Value) (l : List Value) (h : l.length ≤ cur.size) : (putCells id 0 l.toArray cur).toList.take l.length = l := by
  apply List.ext_getElem?
  intro j
  by_cases hj : j < l.length
  · rw [List.getElem?_take_of_lt hj, Array.getElem?_toList]
    simp [putCells, hj, show j < cur.size by omega]
  · rw [List.getElem?_take_eq_none (by omega), List.getElem?_eq_none (by omega)]
set_option maxHeartbeats 1000000 in
/-- SortFunc of a slice of starts of the call's own. -/
theorem sortStarts_any (v : Value) (l : List StartD) (B : Nat) (w : World) (h : StartRow w B v l) (hB : B ≤ w.heap.size) (hl : l.length ≤ 1000) :
    Calls Tryz.prog 128 #[v, .func (.func 115) #[] #[]] w fun e w' => e = .returned (.tuple #[]) ∧ StartRow w' B v (sortT l) ∧ Below B w w' := by
  have h' := h
  have eg : ∀ args w, (callFunc 115 args).run Tryz.prog w = .ok (.enter 115 args) w := enters_of Tryz.func115 (by kernel_rfl) rfl
  rcases h.2 with ⟨hv, h0⟩ | ⟨g, cap, cur, hv, hg0, hg, h1, h2, h3, h4⟩
  · have hl : l = [] := List.eq_nil_of_length_eq_zero h0
    subst hl
    subst hv
    refine (AnyF.slices_SortFunc_none Tryz.sortStarts none 0 _ w).mono ?_
    rintro e w' ⟨rfl, rfl⟩
    exact ⟨rfl, by rw [show sortT [] = [] by simp [sortT]]; exact h', Below.refl _ _⟩
  · subst hv
    have hlt := (Array.getElem?_eq_some_iff.1 hg).1
    have hH := holds_starts (l := l) hg h4
    have hcon := AnyQ.slices_SortFunc_total Tryz.sortStarts 2 Tryz.isAgg74 Tryz.sizeOf74 startVs (fun _ => rfl) (fun x v hv => by simp [startVs] at hv; rcases hv with rfl | rfl <;> rfl) cmpS swoS 115 #[] g 0 cap l.toArray w eg
      (fun _ _ _ _ x y => compareStarts_any x y _) hH hlt (by simp; omega) totS
    rw [leS_eq] at hcon
    have hcon2 : Calls Tryz.prog 128 #[.slice (some ⟨g, 0, none⟩) l.length cap, .func (.func 115) #[] #[]] w fun e w' => e = .returned (.tuple #[]) ∧ ∃ n os, w' = sortWorldK startVs 2 w g 0 n (sortT l).toArray os := hcon
    refine hcon2.mono ?_
    rintro e w' ⟨rfl, n, os, rfl⟩
    have hsl := sortT_len l
    have hvl := startVals_len (sortT l)
    unfold sortWorldK putRowK
    rw [flat_starts]
    refine ⟨rfl, ?_, (Below.refl _ w).grown (grownBy_put _) hB (fun k hk => by injection hk; omega)⟩
    unfold StartRow
    rw [hsl]
    refine ⟨by rw [hvl, hsl], .inr ⟨g, cap, _, rfl, hg0, heap_put _ hg, h1, h2, by simp [putCells, h3], ?_⟩⟩
    rw [show l.length * 2 = (startVals (sortT l)).length by omega]
    exact take_put cur _ (by omega)
end Go.Proofs.YtigdcgklpapfbaaGreatDoor.S10

set_option linter.unusedVariables false
namespace Go.Proofs.YtigdcgklpapfbaaGreatDoor.S10
open Go Go.Proofs Go.RowKit Go.Lib Go.Proofs.YtigdcgklpapfbaaGreatDoor

section
variable {α : Type} (f : Str → α × Int) (vals : List α → List Value) (TS TE z TF : Nat) (zc : UInt8) (fv : Value)
/-- Between two rounds. -/
structure PInv (N : Nat) (w : World) (st : St) (W : World) : Prop where
  below : Below N w W
  size : N + 7 ≤ W.heap.size
  fb : Boxed W N TF fv
  r1 : Boxed W (N + 1) TS (.slice none 0 0)
  r2 : Boxed W (N + 2) 26 (.int .i64 0)
  acc : ∃ v, Boxed W (N + 3) TS v ∧ W.ownsRow (N + 7) TE z v (partsGo f st.1 []).1.length (vals (partsGo f st.1 []).1)
  v1 : Boxed W (N + 4) 9 (.string st.2)
  v2 : Boxed W (N + 5) 9 (.string ⟨#[zc]⟩)
  v3 : Boxed W (N + 6) 3 (.int .i64 0)
  ok : (partsGo f st.1 []).2 = 0
/-- A round has returned. -/
structure PErr (N : Nat) (w : World) (x : Str) (W : World) : Prop where
  below : Below N w W
  out : ∃ e : Int, (partsGo f (splitC zc x) []).2 = e ∧ e ≠ 0 ∧ Boxed W (N + 1) TS (.slice none 0 0) ∧ Boxed W (N + 2) 26 (.int .i64 e)
end
section
variable {α : Type} {f : Str → α × Int} {vals : List α → List Value} {TS TE z TF : Nat} {zc : UInt8} {fv : Value} {N : Nat} {w : World}
theorem row_kindP {w : World} {B e z k : Nat} {v : Value} {xs : List Value} (h : w.ownsRow B e z v k xs) (g : Nat) (hg : v.ownBlock = some g) : ∃ c, w.heap[g]? = some (.cells c e (0, 0)) := by
  rcases h.2 with ⟨rfl, _⟩ | ⟨g', cap, cur, rfl, _, hh, _⟩
  · simp [Value.ownBlock] at hg
  · simp only [Value.ownBlock, Option.some.injEq] at hg
    subst hg
    exact ⟨cur, hh⟩
theorem PInv.kept {st : St} {W W' : World} {row : Option Nat} (h : PInv f vals TS TE z TF zc fv N w st W) (hN : N ≤ w.heap.size) (hg : W.grownBy W' row) (hr : ∀ r, row = some r → N + 7 ≤ r) (hrow : ∀ v, Boxed W (N + 3) TS v → W.ownsRow (N + 7) TE z v (partsGo f st.1 []).1.length (vals (partsGo f st.1 []).1) → v.ownBlock = none ∨ v.ownBlock ≠ row) : PInv f vals TS TE z TF zc fv N w st W' := by
  have hne : ∀ B, B < N + 7 → some B ≠ row := fun B hB e => by have := hr B e.symm; omega
  obtain ⟨v, hv, hw⟩ := h.acc
  have hs := h.below.size
  have hz := h.size
  exact ⟨h.below.grown hg (by omega) (fun k e => by have := hr k e; omega), Nat.le_trans h.size hg.size, h.fb.kept hg (hne _ (by omega)), h.r1.kept hg (hne _ (by omega)), h.r2.kept hg (hne _ (by omega)),
    ⟨v, hv.kept hg (hne _ (by omega)), World.ownsRow.kept hw hg (hrow v hv hw)⟩, h.v1.kept hg (hne _ (by omega)), h.v2.kept hg (hne _ (by omega)), h.v3.kept hg (hne _ (by omega)), h.ok⟩
theorem PInv.own {B : Nat} (hN : N ≤ w.heap.size) (hB : N + 7 ≤ B) : OwnFrom B (PInv f vals TS TE z TF zc fv N w) := by
  intro st W W' row h hg hr
  refine h.kept hN hg (fun r e => by have := (hr r e).1; omega) (fun v hv hw => ?_)
  rcases hw.2 with ⟨rfl, _⟩ | ⟨g, cap, cur, rfl, _, hgb, _⟩
  · exact .inl rfl
  · refine .inr fun e' => ?_
    obtain ⟨_, o, ho, hc⟩ := hr g (by simpa [Value.ownBlock] using e'.symm)
    rw [hgb] at ho; cases ho; cases hc
theorem PErr.own {B : Nat} {x : Str} (hN : N ≤ w.heap.size) (hB : N + 7 ≤ B) : OwnFrom B (fun (_ : Unit) W => PErr f TS zc N w x W) := by
  rintro _ W W' row ⟨hb, e, he, h0, h1, h2⟩ hg hr
  have hne : ∀ B, B < N + 7 → some B ≠ row := fun B' hB' e => by have := (hr B' e.symm).1; omega
  have hs := hb.size
  exact ⟨hb.grown hg (by omega) (fun k e => by have := (hr k e).1; omega), e, he, h0, h1.kept hg (hne _ (by omega)), h2.kept hg (hne _ (by omega))⟩
theorem PInv.turn {st : St} {W : World} (h : PInv f vals TS TE z TF zc fv N w st W) (hN : N ≤ w.heap.size) (r : ByteArray) : PInv f vals TS TE z TF zc fv N w (st.1, r) (W.setCell ⟨N + 4, 0, none⟩ (.string r)) := by
  have hg := grownBy_setCell' W (N + 4) (.string r)
  have hne : ∀ B, B ≠ N + 4 → some B ≠ some (N + 4) := fun B hB e => hB (by injection e)
  obtain ⟨v, hv, hw⟩ := h.acc
  have hs := h.below.size
  have hz := h.size
  refine ⟨h.below.grown hg (by omega) (fun k e => by injection e; omega), Nat.le_trans h.size hg.size, h.fb.kept hg (hne _ (by omega)), h.r1.kept hg (hne _ (by omega)), h.r2.kept hg (hne _ (by omega)),
    ⟨v, hv.kept hg (hne _ (by omega)), World.ownsRow.kept hw hg ?_⟩, h.v1.set _, h.v2.kept hg (hne _ (by omega)), h.v3.kept hg (hne _ (by omega)), h.ok⟩
  refine .inr fun e => ?_
  have := World.ownsRow.lt hw _ e
  omega
theorem PInv.vars {st : St} {W : World} (h : PInv f vals TS TE z TF zc fv N w st W) : SplitVars zc (N + 4) st.2 W := ⟨h.v1.cell, h.v1.frozen, h.v2.cell, h.v3.cell⟩
/-- A round has gone on. -/
theorem PInv.step {pre : List Str} {r : ByteArray} {W W2 w3 : World} {v v' : Value} {n n' : Nat} {L L' : List Value} {LL : List α} {x : Str} (h : PInv f vals TS TE z TF zc fv N w (pre, r) W) (hN : N ≤ w.heap.size) (hb : Below W.heap.size W W2) (hv : Boxed W (N + 3) TS v)
    (hrow2 : W2.ownsRow (N + 7) TE z v n L) (hg : W2.grownBy w3 v.ownBlock) (hown : w3.ownsRow (N + 7) TE z v' n' L') (hx : partsGo f (pre ++ [x]) [] = (LL, 0)) (hn : n' = LL.length) (hL : L' = vals LL) (B0 : Nat) :
    PInv f vals TS TE z TF zc fv N w (pre ++ [x], r) (w3.setCell ⟨N + 3, 0, none⟩ v') ∧ KeepsFrom B0 W (w3.setCell ⟨N + 3, 0, none⟩ v') := by
  have hs := h.below.size
  have hlt := World.ownsRow.lt hrow2
  have hlt' := World.ownsRow.lt hown
  have hne : ∀ B, B < N + 7 → some B ≠ v.ownBlock := fun B hB e => by have := hlt B e.symm; omega
  have hg2 := grownBy_setCell' w3 (N + 3) v'
  have hne2 : ∀ B, B ≠ N + 3 → some B ≠ some (N + 3) := fun B hB e => hB (by injection e)
  have up : ∀ {B : Nat} {t : TypeId} {u : Value}, Boxed W B t u → B < N + 7 → B ≠ N + 3 → Boxed (w3.setCell ⟨N + 3, 0, none⟩ v') B t u := fun hu h6 h2 => ((S3.Boxed.under hu hb).kept hg (hne _ h6)).kept hg2 (hne2 _ h2)
  have hv3 : Boxed w3 (N + 3) TS v := (S3.Boxed.under hv hb).kept hg (hne _ (by omega))
  have hsz := h.size
  have z2 := hb.size
  have z3 := hg.size
  have hb3 : Below N w (w3.setCell ⟨N + 3, 0, none⟩ v') := ((h.below.trans (hb.mono (by omega))).grown hg (by omega) (fun k hk => by have := hlt k hk; omega)).grown hg2 (by omega) (fun k e => by injection e; omega)
  subst hn hL
  refine ⟨⟨hb3, ?_, up h.fb (by omega) (by omega), up h.r1 (by omega) (by omega), up h.r2 (by omega) (by omega), ⟨v', hv3.set v', ?_⟩, up h.v1 (by omega) (by omega), up h.v2 (by omega) (by omega), up h.v3 (by omega) (by omega), by rw [hx]⟩, ?_⟩
  · have := hg2.size; omega
  · rw [hx]
    exact World.ownsRow.kept hown hg2 (.inr fun e => by have := hlt' _ e; omega)
  · refine (((S3.keeps_below hb).trans (KeepsOthers.of_grownBy hg fun j o ej hj => ?_)).trans (KeepsOthers.setCell _ _ _)).from _
    obtain ⟨c, hc⟩ := row_kindP hrow2 j ej
    rw [hc] at hj
    cases hj
    rfl
end
/-- Both results stored, the mark taken. -/
theorem parts_end {N D TS TE z : Nat} {W : World} {u0 u1 v e : Value} (h1 : Boxed W (N + 1) TS u0) (h2 : Boxed W (N + 2) 26 u1) (hD : N + 7 ≤ D) (hK : W.heap[D]? = some (.deferred (some []))) :
    ((W.setCell ⟨N + 1, 0, none⟩ v).setCell ⟨N + 2, 0, none⟩ e).heap[D]? = some (.deferred (some [])) ∧
    Boxed (((W.setCell ⟨N + 1, 0, none⟩ v).setCell ⟨N + 2, 0, none⟩ e).putObj D (.deferred none)) (N + 1) TS v ∧ Boxed (((W.setCell ⟨N + 1, 0, none⟩ v).setCell ⟨N + 2, 0, none⟩ e).putObj D (.deferred none)) (N + 2) 26 e ∧
    Below N W (((W.setCell ⟨N + 1, 0, none⟩ v).setCell ⟨N + 2, 0, none⟩ e).putObj D (.deferred none)) ∧
    (∀ u k xs, W.ownsRow (N + 7) TE z u k xs → (((W.setCell ⟨N + 1, 0, none⟩ v).setCell ⟨N + 2, 0, none⟩ e).putObj D (.deferred none)).ownsRow (N + 7) TE z u k xs) := by
  have hg1 := grownBy_setCell' W (N + 1) v
  have hg2 := grownBy_setCell' (W.setCell ⟨N + 1, 0, none⟩ v) (N + 2) e
  have hg3 := grownBy_putObj' ((W.setCell ⟨N + 1, 0, none⟩ v).setCell ⟨N + 2, 0, none⟩ e) D (.deferred none)
  have hne : ∀ a b : Nat, a ≠ b → some a ≠ some b := fun a b h e => h (by injection e)
  have hlt := h2.lt
  have k0 : ((W.setCell ⟨N + 1, 0, none⟩ v).setCell ⟨N + 2, 0, none⟩ e).heap[D]? = some (.deferred (some [])) := (KeepsOthers.setCell _ _ _).same D _ ((KeepsOthers.setCell W _ _).same D _ hK rfl) rfl
  refine ⟨k0, ((h1.set v).kept hg2 (hne _ _ (by omega))).kept hg3 (hne _ _ (by omega)), ((h2.kept hg1 (hne _ _ (by omega))).set e).kept hg3 (hne _ _ (by omega)), ?_, ?_⟩
  · exact (((Below.refl N W).grown hg1 (by omega) (fun k e => by injection e; omega)).grown hg2 (by have := hg1.size; omega) (fun k e => by injection e; omega)).grown hg3 (by have := hg1.size; have := hg2.size; omega) (fun k e => by injection e; omega)
  · intro u k xs h
    have := h.lt
    exact ownsRow_putObj (World.ownsRow.kept (World.ownsRow.kept h hg1 (.inr fun e => by have := this _ e; omega)) hg2 (.inr fun e => by have := this _ e; omega)) _ k0 rfl
theorem parts_low {N D TS : Nat} {W : World} {u0 e : Value} (h1 : Boxed W (N + 1) TS u0) (h2 : Boxed W (N + 2) 26 e) (hD : N + 7 ≤ D) : Boxed (W.putObj D (.deferred none)) (N + 1) TS u0 ∧ Boxed (W.putObj D (.deferred none)) (N + 2) 26 e ∧ ∀ w, Below N w W → N ≤ w.heap.size → Below N w (W.putObj D (.deferred none)) := by
  have hg3 := grownBy_putObj' W D (.deferred none)
  have hne : ∀ a b : Nat, a ≠ b → some a ≠ some b := fun a b h e => h (by injection e)
  exact ⟨h1.kept hg3 (hne _ _ (by omega)), h2.kept hg3 (hne _ _ (by omega)), fun w hb hN => hb.grown hg3 (by have := hb.size; omega) (fun k e => by injection e; omega)⟩
set_option maxHeartbeats 1000000 in
/-- SplitSeq at one sign. -/
theorem splitSeq_any (z : UInt8) (s : ByteArray) (w : World) : Calls Tryz.prog 156 #[.string s, .string ⟨#[z]⟩] w fun e w' =>
    e = .returned (.func (.func 229) #[] #[.pointer (some ⟨w.heap.size + 1, 0, none⟩), .pointer (some ⟨w.heap.size, 0, none⟩), .pointer (some ⟨w.heap.size + 2, 0, none⟩)]) ∧ w' = ((w.alloc (.cells #[.string s] 9)).alloc (.cells #[.string ⟨#[z]⟩] 9)).alloc (.cells #[.int .i64 0] 3) := by
  have c56 : Calls Tryz.prog 186 #[.string s, .string ⟨#[z]⟩, .int .i64 0] w fun e w' =>
      e = .returned (.func (.func 229) #[] #[.pointer (some ⟨w.heap.size + 1, 0, none⟩), .pointer (some ⟨w.heap.size, 0, none⟩), .pointer (some ⟨w.heap.size + 2, 0, none⟩)]) ∧
      w' = ((w.alloc (.cells #[.string s] 9)).alloc (.cells #[.string ⟨#[z]⟩] 9)).alloc (.cells #[.int .i64 0] 3) := by
    go_enter Tryz.func186, Tryz.ntmps186
    go_wp2
    go_ret
    exact ⟨rfl, rfl⟩
  go_enter Tryz.func156, Tryz.ntmps156
  go_wp2_with fail
  refine c56.mono ?_
  rintro e w' ⟨rfl, rfl⟩
  go_wp2
  go_ret
  exact ⟨rfl, rfl⟩
end Go.Proofs.YtigdcgklpapfbaaGreatDoor.S10

set_option linter.unusedVariables false
namespace Go.Proofs.YtigdcgklpapfbaaGreatDoor.S10
open Go Go.Proofs Go.RowKit Go.Lib Go.Proofs.YtigdcgklpapfbaaGreatDoor
attribute [local go_sem] Oper.semAt_some
theorem loadInts {w : World} {k : Nat} {x : Value} (h0 : w.cell? ⟨k, 0, none⟩ = some x) : (loadVar 29 ⟨k, 0, none⟩).run Tryz.prog w = .ok x w := by
  simp [loadVar, go_sem, h0]

set_option maxHeartbeats 8000000 in
set_option maxRecDepth 100000 in
/-- ReadParts at sets of weeks. -/
theorem readPartsI_any (n : Int) (K : Nat) (x : ByteArray) (hs : x.size < 4294967281) (w : World)
    (hF : ∀ (y : ByteArray) (W : World), y.size < 4294967281 → Below w.heap.size w W → Calls Tryz.prog 118 (#[.string y] ++ #[.pointer (some ⟨K, 0, none⟩)]) W fun e w' => (∃ r, r = (patM n) (lst y) ∧ e = .returned (.tuple #[.int .i64 r.1, .int .i64 r.2])) ∧ Below W.heap.size W w') :
    Calls Tryz.prog 120 #[.string x, .string ⟨#[47]⟩, .int .i64 8, (.func (.func 118) #[] #[.pointer (some ⟨K, 0, none⟩)])] w fun e w' => (∃ v, e = .returned (.tuple #[v, .int .i64 (partsM (patM n) 47 8 (lst x)).2]) ∧ w'.ownsRow w.heap.size 3 1 v (partsM (patM n) 47 8 (lst x)).1.length (intVals (partsM (patM n) 47 8 (lst x)).1)) ∧ Below w.heap.size w w' := by
  have eg : ∀ args w, (callFunc 118 args).run Tryz.prog w = .ok (.enter 118 args) w := enters_of Tryz.func118 (by kernel_rfl) rfl
  obtain ⟨i9, hi9, hz9, hsi9, hby9⟩ := info_parts infoInt
  refine (callsIn_wide (n := 9)).1 ?_
  refine callsIn_of_wp_marks Tryz.func120 rfl trivial ?_ rfl
  simp only [Tryz.ntmps120, List.size_toArray, List.length_cons, List.length_nil, Nat.reduceAdd, Nat.reduceSub, Array.replicate_succ, Array.replicate_zero, List.push_toArray, List.append_toArray, List.nil_append, List.cons_append]
  have HF := hid hF
  clear hF
  gi_wp2_with fail
  refine ⟨trivial, ?_⟩
  refine (callsIn_wide.2 (splitSeq_any 47 x _)).mono ?_
  rintro e w' ⟨rfl, rfl⟩
  gi_wp2
  obtain ⟨W0, hW0⟩ : ∃ W0, (((((((w.alloc (Obj.cells #[(.func (.func 118) #[] #[.pointer (some ⟨K, 0, none⟩)])] 133)).alloc (Obj.cells #[Value.slice none 0 0] 29)).alloc (Obj.cells #[Value.int IntKind.i64 0] 26)).alloc (Obj.cells #[Value.slice none 0 0] 29)).alloc (Obj.cells #[Value.string x] 9)).alloc (Obj.cells #[Value.string { data := #[47] }] 9)).alloc (Obj.cells #[Value.int IntKind.i64 0] 3)) = W0 := ⟨_, rfl⟩
  rw [hW0]
  have hI0 : PInv (patM n) intVals 29 3 1 133 47 (.func (.func 118) #[] #[.pointer (some ⟨K, 0, none⟩)]) w.heap.size w ([], x) W0 := by
    rw [← hW0]
    refine ⟨?_, by simp, ?_, ?_, ?_, ⟨.slice none 0 0, ?_, World.ownsRow_nil _ _ _ _⟩, ?_, ?_, ?_, rfl⟩
    · exact (((((((Below.refl _ w).alloc (Nat.le_refl _) _).alloc (by simp) _).alloc (by simp; omega) _).alloc (by simp; omega) _).alloc (by simp; omega) _).alloc (by simp; omega) _).alloc (by simp; omega) _
    · exact ((((((S3.box_at (by simp) 133 _).alloc _).alloc _).alloc _).alloc _).alloc _).alloc _
    · exact (((((S3.box_at (by simp) 29 _).alloc _).alloc _).alloc _).alloc _).alloc _
    · exact ((((S3.box_at (by simp) 26 _).alloc _).alloc _).alloc _).alloc _
    · exact (((S3.box_at (by simp) 29 _).alloc _).alloc _).alloc _
    · exact ((S3.box_at (by simp) 9 _).alloc _).alloc _
    · exact (S3.box_at (by simp) 9 _).alloc _
    · exact S3.box_at (by simp) 3 _
  have hz0 : w.heap.size + 7 ≤ W0.heap.size := hI0.size
  clear hW0
  refine S3.range_own (by omega) (gf := 229) (lb := #[.pointer (some ⟨w.heap.size + 4 + 1, 0, none⟩), .pointer (some ⟨w.heap.size + 4, 0, none⟩), .pointer (some ⟨w.heap.size + 4 + 2, 0, none⟩)]) rfl (enters_of Tryz.func229 (by kernel_rfl) rfl) (w.heap.size + 4) (by omega)
    (fun st y => ∃ rest, splitC 47 (lst x) = st.1 ++ lst y :: rest) (fun st y => (st.1 ++ [lst y], st.2)) (fun st => st.1 = splitC 47 (lst x)) (PInv (patM n) intVals 29 3 1 133 47 (.func (.func 118) #[] #[.pointer (some ⟨K, 0, none⟩)]) w.heap.size w) (PErr (patM n) 29 47 w.heap.size w (lst x)) ([], x)
    (split_iter 47 _ (w.heap.size + 4) x (by omega) _ (fun st W h => h.vars) (fun st r W h => h.turn (Nat.le_refl _) r)) rfl (PInv.own (Nat.le_refl _) hz0) (PErr.own (Nat.le_refl _) hz0) hI0
    (fun y => { tmps := #[.string x, .string ⟨#[47]⟩, .int .i64 8, (.func (.func 118) #[] #[.pointer (some ⟨K, 0, none⟩)]), undef, undef, undef, .pointer (some ⟨w.heap.size, 0, none⟩), .pointer (some ⟨w.heap.size + 1, 0, none⟩), .pointer (some ⟨w.heap.size + 1 + 1, 0, none⟩), .pointer (some ⟨w.heap.size + 1 + 1 + 1, 0, none⟩),
      .string y, undef, undef, .string x, .string ⟨#[47]⟩, .func (.func 229) #[] #[.pointer (some ⟨w.heap.size + 1 + 1 + 1 + 1 + 1, 0, none⟩), .pointer (some ⟨w.heap.size + 1 + 1 + 1 + 1, 0, none⟩), .pointer (some ⟨w.heap.size + 1 + 1 + 1 + 1 + 2, 0, none⟩)],
      .string y, undef, undef, undef, undef, undef, undef, undef, undef, undef, undef, undef, undef, undef, undef, undef, undef, undef, undef], defers := [] }) ?assign ?body ?done ?stop
  case assign =>
    intro l y W K hK
    gi_wp2
    exact hK
  case body =>
    rintro l ⟨pre, r⟩ y W hI ⟨rest, hrest⟩
    obtain ⟨v, hv, hrow⟩ := hI.acc
    have hok := hI.ok
    dsimp only at hrow hok hrest ⊢
    have hxs : y.size < 4294967281 := by
      have := splitC_mem 47 (lst x) (lst y) (by rw [hrest]; simp)
      rw [show (lst y).length = y.size from (Lib.size_eq y).symm, show (lst x).length = x.size from (Lib.size_eq x).symm] at this
      omega
    obtain ⟨L, hL⟩ : ∃ L, (partsGo (patM n) pre []).1 = L := ⟨_, rfl⟩
    have hgo : ∀ qs, partsGo (patM n) (pre ++ qs) [] = partsGo (patM n) qs L := fun qs => by rw [partsGo_app (patM n) _ _ _ hok, hL]
    have hlen : L.length = pre.length := by rw [← hL, partsGo_len (patM n) pre [] hok]; simp
    have hpl : pre.length ≤ 4294967281 := by
      have h1 := splitC_len 47 (lst x)
      rw [hrest, List.length_append, show (lst x).length = x.size from (Lib.size_eq x).symm] at h1
      omega
    rw [hL] at hrow
    have hB := hI.below
    have cP := HF.out y W (by omega) hB
    obtain ⟨⟨t1, e2⟩, hR⟩ : ∃ R, (patM n) (lst y) = R := ⟨_, rfl⟩
    rw [hR] at cP
    simp only [exists_eq_left, List.append_toArray, List.cons_append, List.nil_append] at cP
    have c4 := hI.fb.cell
    obtain ⟨A, c, hvA⟩ := row_slice hrow
    subst hvA
    obtain ⟨nn, hn⟩ : ∃ nn, L.length = nn := ⟨_, rfl⟩
    rw [hn] at hrow hlen hv
    have HN0 := hid hn
    have HRow := hid hrow
    have HGo := hid hgo
    have HOk := hid hok
    have HLen := hid hlen
    have CP := hid cP
    clear hrow hgo hL hok hlen cP hn
    by_cases h2 : e2 = 0
    · subst h2
      gi_wp2_with fail
      refine ⟨trivial, ?_⟩
      refine (CallsIn.inRound l (callsIn_wide.2 CP.out)).mono ?_
      rintro e W2 ⟨rfl, hb2⟩
      have hv2 := S3.Boxed.under hv hb2
      have hcell2 := hv2.cell
      have hsz6 : w.heap.size + 7 ≤ W2.heap.size := by have := hI.size; have := hb2.size; omega
      obtain ⟨W4, hW4⟩ : ∃ W4, W4 = W2.alloc (.cells #[.int .i64 t1] 3) := ⟨_, rfl⟩
      have hb4 : Below W.heap.size W W4 := hW4 ▸ (hb2.alloc hb2.size _)
      have hrow4 : W4.ownsRow (w.heap.size + 7) 3 1 (.slice A nn c) nn (intVals L) := row_under HRow.out hb4
      have hv4 : Boxed W4 (w.heap.size + 3) 29 (.slice A nn c) := S3.Boxed.under hv hb4
      have hsz4 : w.heap.size + 7 ≤ W4.heap.size := by have := hI.size; have := hb4.size; omega
      have hmx : nn + 1 ≤ maxLen := by rw [HLen.out]; unfold maxLen; omega
      have hby : (nn + 1) * 8 ≤ 140737488355328 := by rw [HLen.out]; omega
      have hn4 : ∀ (j : Nat) (u : Value), (intVals [t1])[j]? = some u → W4.cell? ((⟨W2.heap.size, 0, none⟩ : Addr).add j) = some u := by
        intro j u hj
        rw [Addr.add_lit, hW4]
        have hnew := heap_alloc_new W2 (.cells #[.int .i64 t1] 3)
        skip
        rw [Lib.cell_of_heap hnew]
        match j, hj with
        | 0, hj => exact hj
        | j + 1, hj => simp [intVals] at hj
      have hone : ∀ u ∈ intVals [t1], u.oneCell' = true := by
        intro u hu
        simp [intVals] at hu
        subst hu; rfl
      have HRow4 := hid hrow4
      have HMx := hid hmx
      have HBy := hid hby
      have H6 := hid hsz4
      have HN := hid hn4
      have HO := hid hone
      have HV4 := hid hv4
      have HB4 := hid hb4
      clear hrow4 hmx hby hsz4 hn4 hv4 hb4 hone
      gi_wp2_with (gi_at_builtin; rw [← hW4]; refine wpListIn_append_own _ rfl _ _ 29 rfl (w.heap.size + 7) 3 i9 (.int .i64 0) 1 8 Tryz.underlying29 hi9 hz9 hsi9 hby9 rfl (by decide) _ nn (intVals L) rfl HRow4.out ⟨W2.heap.size, 0, none⟩ 1 1 (intVals [t1]) rfl rfl HN.out HO.out HMx.out HBy.out H6.out ?_)
      intro v' w3 hown' hgrow _
      rw [← hW4] at hgrow
      obtain ⟨g', cap', rfl⟩ := ownsRow_succ (k := nn) hown'
      have hv3 : Boxed w3 (w.heap.size + 3) 29 (.slice A nn c) := HV4.out.kept hgrow (fun e => by have := World.ownsRow.lt HRow4.out _ e.symm; omega)
      have hcell3 := hv3.cell
      have hfz3 := hv3.frozen
      have HOW := hid hown'
      have HGW := hid hgrow
      clear hown' hgrow
      gi_wp2
      obtain ⟨i1, i2⟩ := PInv.step hI (Nat.le_refl _) HB4.out hv HRow4.out HGW.out HOW.out (x := lst y) (LL := L ++ [t1]) (by rw [HGo.out]; simp [partsGo, hR]) (by rw [List.length_append, HN0.out]; rfl) (by rw [intVals_app]) W0.heap.size
      exact ⟨i2, i1⟩
    · have hgo2 : partsGo (patM n) (splitC 47 (lst x)) [] = ([], e2) := by rw [hrest, HGo.out]; simp [partsGo, hR, h2]
      have HGo2 := hid hgo2
      clear hgo2
      gi_wp2_with fail
      refine ⟨trivial, ?_⟩
      refine (CallsIn.inRound l (callsIn_wide.2 CP.out)).mono ?_
      rintro e W2 ⟨rfl, hb2⟩
      have k1 := S3.Boxed.under hI.r1 hb2
      have k2 := S3.Boxed.under hI.r2 hb2
      have hb3 : Below W.heap.size W W2 := hb2
      have f1 := k1.frozen
      have f2 := k2.frozen
      have g1 := k1.cell
      have g2 := k2.cell
      gi_wp2
      obtain ⟨W5, hW5⟩ : ∃ W5, W5 = W2 := ⟨_, rfl⟩
      rw [← hW5] at hb3 k1 k2 ⊢
      clear hW5
      have q1 := grownBy_setCell' W5 (w.heap.size + 1) (.slice none 0 0)
      have q2 := grownBy_setCell' (W5.setCell ⟨w.heap.size + 1, 0, none⟩ (.slice none 0 0)) (w.heap.size + 2) (.int .i64 e2)
      have hne' : ∀ a b : Nat, a ≠ b → some a ≠ some b := fun a b h e => h (by injection e)
      refine ⟨(((S3.keeps_below hb3).trans (KeepsOthers.setCell _ _ _)).trans (KeepsOthers.setCell _ _ _)).from _, ⟨?_, e2, by rw [HGo2.out], h2, (k1.set _).kept q2 (hne' _ _ (by omega)), (k2.kept q1 (hne' _ _ (by omega))).set _⟩⟩
      have hz2 := hb3.size
      have hzW := hI.size
      exact ((hB.trans (hb3.mono (by omega))).grown q1 (by omega) (fun k e => by injection e; omega)).grown q2 (by have := q1.size; omega) (fun k e => by injection e; omega)
  case done =>
    rintro D ⟨pre, r⟩ W hD hfin hI hK
    obtain ⟨v, hv, hrow⟩ := hI.acc
    have hok := hI.ok
    dsimp only at hfin hrow hok
    rw [hfin] at hrow hok
    obtain ⟨A, c, hvA⟩ := row_slice hrow
    subst hvA
    have hM : partsM (patM n) 47 8 (lst x) = if 8 < (partsGo (patM n) (splitC 47 (lst x)) []).1.length then ([], 2) else ((partsGo (patM n) (splitC 47 (lst x)) []).1, 0) := by
      unfold partsM
      rw [if_neg (by rw [hok]; simp)]
    obtain ⟨L, hL⟩ : ∃ L, (partsGo (patM n) (splitC 47 (lst x)) []).1 = L := ⟨_, rfl⟩
    rw [hL] at hM hrow hv
    have hcell := hv.cell
    have f1 := hI.r1.frozen
    have f2 := hI.r2.frozen
    have g1 := hI.r1.cell
    have g2 := hI.r2.cell
    have hBelow := hI.below
    have HRow := hid hrow
    clear hrow hL hok
    by_cases hk : 8 < L.length
    · rw [if_pos hk] at hM
      have hk' : decide ((8 : Int) < (L.length : Int)) = true := decide_eq_true (by omega)
      gi_wp2
      obtain ⟨k0, k1, k2, k3, k4⟩ := parts_end (TE := 3) (z := 1) (v := .slice none 0 0) (e := .int .i64 2) hI.r1 hI.r2 (D := D) (by omega) hK
      refine ⟨by simp, .inl ⟨_, _, rfl, run_takeDeferred k0, ?_⟩⟩
      refine ⟨_, results_cc rfl _ _ _ _ _ _ _ rfl rfl (loadInts k1.cell) (S3.loadErr k2.cell), ?_⟩
      rw [hM]
      exact ⟨⟨_, rfl, World.ownsRow_nil _ _ _ _⟩, hBelow.trans k3⟩
    · rw [if_neg hk] at hM
      have hk' : decide ((8 : Int) < (L.length : Int)) = false := decide_eq_false (by omega)
      gi_wp2
      obtain ⟨k0, k1, k2, k3, k4⟩ := parts_end (TE := 3) (z := 1) (v := .slice A L.length c) (e := .int .i64 0) hI.r1 hI.r2 (D := D) (by omega) hK
      refine ⟨by simp, .inl ⟨_, _, rfl, run_takeDeferred k0, ?_⟩⟩
      refine ⟨_, results_cc rfl _ _ _ _ _ _ _ rfl rfl (loadInts k1.cell) (S3.loadErr k2.cell), ?_⟩
      rw [hM]
      exact ⟨⟨_, rfl, rowLow (k4 _ _ _ HRow.out) (by omega)⟩, hBelow.trans k3⟩
  case stop =>
    rintro D W hD ⟨hb, e, he, hne0, h1, h2⟩ hK
    have hM : partsM (patM n) 47 8 (lst x) = ([], e) := by
      unfold partsM
      rw [if_pos (by rw [he]; exact hne0), he]
    obtain ⟨h1', h2', hlow⟩ := parts_low (D := D) h1 h2 (by omega)
    gi_wp2
    refine ⟨by simp, .inl ⟨_, _, rfl, run_takeDeferred hK, ?_⟩⟩
    refine ⟨_, results_cc rfl _ _ _ _ _ _ _ rfl rfl (loadInts h1'.cell) (S3.loadErr h2'.cell), ?_⟩
    rw [hM]
    exact ⟨⟨_, rfl, World.ownsRow_nil _ _ _ _⟩, hlow _ hb (Nat.le_refl _)⟩
end Go.Proofs.YtigdcgklpapfbaaGreatDoor.S10

set_option linter.unusedVariables false
namespace Go.Proofs.YtigdcgklpapfbaaGreatDoor.S10
open Go Go.Proofs Go.RowKit Go.Lib Go.Proofs.YtigdcgklpapfbaaGreatDoor

theorem contains_eq (l : List Int) (i : Nat) (x : Int) : (l.take i).contains x = decide (x ∈ l.take i) := by
  rw [Bool.eq_iff_iff]; simp
set_option maxHeartbeats 4000000 in
set_option maxRecDepth 100000 in
theorem hasEqualI_any (A : Option Addr) (l : List Int) (c : Nat) (P : Nat → Prop) (w : World) (h : NumsIn w P A l) (hlc : l.length ≤ c) (hc : c ≤ 9223372036854775807) :
    Calls Tryz.prog 113 #[.slice A l.length c] w fun e w' => e = .returned (.bool (dupB l)) ∧ w = w' := by
  obtain ⟨ANS, hA⟩ : ∃ ANS, dupB l = ANS := ⟨_, rfl⟩
  rw [hA]
  have HA := hid hA
  have HH := hid h
  clear h hA
  go_enter Tryz.func113, Tryz.ntmps113
  go_wp2
  go_loop [3, 4, 7] (fun _ _ iv => ∃ i : Nat, iv = .int .i64 (i : Int) ∧ i ≤ l.length ∧ Hid ((l.take i).Nodup)) (fun _ _ iv => l.length - (RowKit.intOf iv).toNat)
  case atStart => exact ⟨0, rfl, Nat.zero_le _, hid (by simp)⟩
  case round =>
    obtain ⟨i, rfl, hi, hN⟩ := hrel
    by_cases hlt : i < l.length
    · have hltz : (i : Int) < (l.length : Int) := by omega
      obtain ⟨b1, o1, rfl, _, hc1⟩ := HH.out.num hlt
      have hst := nodup_take hlt hN.out
      have cC := Tryz.slices_Contains_int b1 o1 i c l l[i] w (by omega) (by omega) (fun j hj => by
        obtain ⟨b2, o2, hA2, _, hc2⟩ := HH.out.num hj
        injection hA2 with hA2
        injection hA2 with e1 e2 _
        subst e1 e2
        rw [getD_elem hj]
        exact hc2)
      rw [contains_eq] at cC
      obtain ⟨y, hy⟩ : ∃ y, l[i] = y := ⟨_, rfl⟩
      rw [hy] at hc1 hst cC
      have hic : i ≤ c := by omega
      by_cases hm : y ∈ l.take i
      · rw [decide_eq_true hm] at cC
        have HT : Hid (ANS = true) := hid (by
          rw [← HA.out]
          unfold dupB
          rw [decide_eq_false (fun k => hst.1 (nodup_pre _ k) hm)]
          rfl)
        have CC := hid cC
        clear cC hst hy hm hN
        go_wp2_with fail
        refine CC.out.mono ?_
        rintro e w' ⟨rfl, rfl⟩
        go_wp2
        go_ret
        exact ⟨by rw [HT.out]; rfl, rfl⟩
      · rw [decide_eq_false hm] at cC
        have HST := hid (hst.2 hm)
        have CC := hid cC
        clear cC hst hy hm hN
        go_wp2_with fail
        refine CC.out.mono ?_
        rintro e w' ⟨rfl, rfl⟩
        go_wp2
        go_round
        case rel => exact ⟨i + 1, by go_num, by omega, HST⟩
        case measure => simp [RowKit.intOf]; omega
    · have hltz : ¬ (i : Int) < (l.length : Int) := by omega
      have HF : Hid (ANS = false) := hid (by
        have h := hN.out
        rw [List.take_of_length_le (by omega)] at h
        rw [← HA.out]
        unfold dupB
        rw [decide_eq_true h]
        rfl)
      go_wp2
      go_ret
      exact ⟨by rw [HF.out]; rfl, rfl⟩

set_option maxHeartbeats 2000000 in
theorem readPat_any (K : Nat) (n : Int) (y : ByteArray) (hy : y.size ≤ 4611686018427387904) (W : World) (hK : W.cell? ⟨K, 0, none⟩ = some (.int .i64 n)) (hE : Env W) :
    Calls Tryz.prog 118 (#[.string y] ++ #[.pointer (some ⟨K, 0, none⟩)]) W fun e w' => (∃ r, r = patM n (lst y) ∧ e = .returned (.tuple #[.int .i64 r.1, .int .i64 r.2])) ∧ Below W.heap.size W w' := by
  have cP := parse_any y hy n W hE
  unfold ItemOut at cP
  unfold patM
  obtain ⟨⟨R, E⟩, hR⟩ : ∃ R, parseM (lst y) n = R := ⟨_, rfl⟩
  rw [hR] at cP ⊢
  dsimp only at cP ⊢
  obtain ⟨r, hr⟩ : ∃ r : Int, ((R : Nat) : Int) = r := ⟨_, rfl⟩
  rw [hr] at cP ⊢
  have CP := hid cP
  clear cP hR hE hr
  simp only [List.append_toArray, List.cons_append, List.nil_append]
  go_enter Tryz.func118, Tryz.ntmps118
  go_wp2_with fail
  refine CP.out.mono ?_
  rintro e w' ⟨rfl, hb⟩
  have HB := hid hb
  clear hb
  go_wp2
  go_ret2
  exact ⟨⟨_, rfl, rfl⟩, HB.out⟩

set_option maxHeartbeats 4000000 in
set_option maxRecDepth 100000 in
theorem readPatterns_any (n : Int) (x : ByteArray) (hs : x.size < 4294967281) (w : World) (hE : Env w) :
    Calls Tryz.prog 86 #[.string x, .int .i64 n] w fun e w' => (∃ v, e = .returned (.tuple #[v, .int .i64 (patsM n (lst x)).2]) ∧ IntRow w' w.heap.size v (patsM n (lst x)).1) ∧ Below w.heap.size w w' := by
  have hb1 := (Below.refl w.heap.size w).alloc (Nat.le_refl _) (.cells #[.int .i64 n] 3)
  have hB1 := Box1.new w 3 (.int .i64 n)
  have cP := readPartsI_any n w.heap.size x hs (w.alloc (.cells #[.int .i64 n] 3)) (fun y W hy hb => readPat_any w.heap.size n y (by omega) W (hB1.next hb).cell (hE.below (hb1.trans (hb.mono (by simp))) hE.size))
  unfold patsM
  obtain ⟨⟨L, E⟩, hR⟩ : ∃ R, partsM (patM n) 47 8 (lst x) = R := ⟨_, rfl⟩
  have hL8 := partsM_most (patM n) 47 8 (lst x)
  rw [hR] at cP hL8 ⊢
  dsimp only at cP hL8 ⊢
  have HB1 := hid hb1
  have CP := hid cP
  have HL8 := hid hL8
  clear cP hE hR hB1 hb1 hL8
  by_cases h0 : E = 0
  · subst h0
    rw [if_neg (by simp)]
    cases hd : dupB L with
    | true =>
      rw [if_pos rfl]
      go_enter Tryz.func86, Tryz.ntmps86
      go_wp2_with fail
      generalize w.alloc (.cells #[.int .i64 n] 3) = w1 at CP HB1 ⊢
      refine CP.out.mono ?_
      rintro e w2 ⟨⟨v, rfl, hrow⟩, hb⟩
      obtain ⟨A, c, rfl, hc1, hc2, hin⟩ := FlatIn.ofRow hrow (by simp [intVals_len])
      have cH := hasEqualI_any A L c _ w2 hin hc1 hc2
      rw [hd] at cH
      have CH := hid cH
      have HB := hid (HB1.out.trans (hb.mono HB1.out.size))
      clear hb hrow hin cH hd
      go_wp2_with fail
      refine CH.out.mono ?_
      rintro e w3 ⟨rfl, rfl⟩
      go_wp2
      go_ret2
      exact ⟨⟨_, rfl, IntRow.nil _ _⟩, HB.out⟩
    | false =>
      rw [if_neg (by simp)]
      go_enter Tryz.func86, Tryz.ntmps86
      go_wp2_with fail
      generalize w.alloc (.cells #[.int .i64 n] 3) = w1 at CP HB1 ⊢
      refine CP.out.mono ?_
      rintro e w2 ⟨⟨v, rfl, hrow⟩, hb⟩
      have hrow' : IntRow w2 w.heap.size v L := IntRow.mono hrow HB1.out.size
      obtain ⟨A, c, rfl, hc1, hc2, hin⟩ := FlatIn.ofRow hrow (by simp [intVals_len])
      have cH := hasEqualI_any A L c _ w2 hin hc1 hc2
      rw [hd] at cH
      have CH := hid cH
      have HB := hid (HB1.out.trans (hb.mono HB1.out.size))
      have HROW := hid hrow'
      clear hb hrow hin cH hd hrow'
      go_wp2_with fail
      refine CH.out.mono ?_
      rintro e w3 ⟨rfl, rfl⟩
      go_wp2
      go_ret2
      exact ⟨⟨_, rfl, HROW.out⟩, HB.out⟩
  · rw [if_pos h0]
    have e1 : (E != 0) = true := by simpa using h0
    have e2 : (E == 0) = false := by simpa using h0
    go_enter Tryz.func86, Tryz.ntmps86
    go_wp2_with fail
    generalize w.alloc (.cells #[.int .i64 n] 3) = w1 at CP HB1 ⊢
    refine CP.out.mono ?_
    rintro e w2 ⟨⟨v, rfl, hrow⟩, hb⟩
    obtain ⟨A, c, rfl⟩ := row_slice hrow
    have HB := hid (HB1.out.trans (hb.mono HB1.out.size))
    clear hb hrow
    go_wp2
    go_ret2
    exact ⟨⟨_, rfl, IntRow.nil _ _⟩, HB.out⟩
end Go.Proofs.YtigdcgklpapfbaaGreatDoor.S10
