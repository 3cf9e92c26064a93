/-
  byPriority of requests; the library's stable sort at fewer than 20 requests. Conditions: as stated. Small general facts and definitions, taken out of R7O. No .. Conditions: as stated.
-/
import Derived.Test.YtlgmanbilaminaaGreatDoorMN13
import Derived.Test.YtlgmanbilaminaaGreatDoorMN14
import Derived.Deep.AppendLies
import Derived.Lib.AppendIntMem
set_option linter.unusedVariables false
namespace Go.Proofs.YtlgmanbilaminaaGreatDoor.S12
open Go Go.Proofs Go.RowKit Go.Lib Go.Sort Go.Proofs.YtlgmanbilaminaaGreatDoor
instance : Inhabited ReqD := ⟨⟨[], [], 0, []⟩⟩
abbrev ReqP := ReqD × ReqA
def encP (x : ReqP) : List Value := reqVs x.1 x.2
def keyP (x : ReqP) : Int := x.1.p
theorem encP_len (x : ReqP) : (encP x).length = 4 := rfl
theorem encP_one (x : ReqP) : ∀ v ∈ encP x, v.oneCell' = true := req_one x.1 x.2
set_option maxHeartbeats 2000000 in
theorem byPriority_any (x y : ReqP) (w : World) : Calls Tryz.prog 51 #[.agg (encP x).toArray, .agg (encP y).toArray] w fun e w' => e = .returned (.int .i64 (cfK keyP x y)) ∧ ∃ q os', w' = grow (w.drewN q) os' := by
  obtain ⟨⟨s1, c1, p1, l1⟩, A1, k1⟩ := x
  obtain ⟨⟨s2, c2, p2, l2⟩, A2, k2⟩ := y
  have cC := Tryz.cmp_Compare_int p1 p2
  have hc : Lib.compareInt p1 p2 = cfK keyP (⟨s1, c1, p1, l1⟩, A1, k1) (⟨s2, c2, p2, l2⟩, A2, k2) := rfl
  rw [hc] at cC
  generalize cfK keyP _ _ = R at cC ⊢
  show Calls Tryz.prog 51 #[.agg #[.string (ba s1), .string (ba c1), .int .i64 p1, .slice A1 l1.length k1], .agg #[.string (ba s2), .string (ba c2), .int .i64 p2, .slice A2 l2.length k2]] w _
  obtain ⟨X1, hX1⟩ : ∃ X, ba s1 = X := ⟨_, rfl⟩
  obtain ⟨X2, hX2⟩ : ∃ X, ba c1 = X := ⟨_, rfl⟩
  obtain ⟨Y1, hY1⟩ : ∃ X, ba s2 = X := ⟨_, rfl⟩
  obtain ⟨Y2, hY2⟩ : ∃ X, ba c2 = X := ⟨_, rfl⟩
  obtain ⟨n1, hn1⟩ : ∃ X, l1.length = X := ⟨_, rfl⟩
  obtain ⟨n2, hn2⟩ : ∃ X, l2.length = X := ⟨_, rfl⟩
  rw [hX1, hX2, hY1, hY2, hn1, hn2]
  clear hX1 hX2 hY1 hY2 hn1 hn2 hc
  have CC := hid cC
  clear cC
  go_enter Tryz.func51, Tryz.ntmps51
  go_wp2_with fail
  refine (CC.out _).mono ?_
  rintro e w' ⟨rfl, rfl⟩
  go_wp2
  go_ret
  exact ⟨rfl, 0, _, by rw [alloc_eq_grow, alloc_eq_grow, grow_grow]; rfl⟩
theorem flat_reqs (l : List ReqP) : flatK encP 4 l.toArray = (reqVals l).toArray := by
  refine Go.Sort.ext_get! (by simp [reqVals_len]) fun t ht => ?_
  rw [Go.Sort.size_flatK] at ht
  rw [Go.Sort.get_flatK _ _ _ _ ht]
  have hl : t / 4 < l.length := by simp at ht; omega
  have h2 : t % 4 < 4 := Nat.mod_lt _ (by omega)
  have hv : (encP l[t / 4])[t % 4]? = some ((encP l[t / 4])[t % 4]'h2) := List.getElem?_eq_getElem h2
  have := reqVals_get l (t / 4) _ (List.getElem?_eq_getElem hl) (t % 4) _ hv
  rw [show t / 4 * 4 + t % 4 = t by omega] at this
  have e1 : (l.toArray)[t / 4]! = l[t / 4] := by simp [hl]
  rw [e1]
  have e2 : (reqVals l).toArray[t]! = (encP l[t / 4])[t % 4]'h2 := by
    rw [Array.getElem!_eq_getD, Array.getD_eq_getD_getElem?]
    simp [this]
  rw [e2]
  rw [getElem!_pos (encP l[t / 4]) (t % 4) h2]
theorem holds_reqs {w : World} {g : Nat} {cur : Array Value} {e : TypeId} {l : List ReqP} (hb : w.heap[g]? = some (.cells cur e (0, 0))) (ht : cur.toList.take (l.length * 4) = reqVals l) : HoldsK encP 4 w g 0 l.toArray := by
  unfold HoldsK
  rw [flat_reqs]
  intro j hj
  have hj' : j < (reqVals l).length := by simpa using hj
  refine ⟨?_, by simp [World.frozen?, hb]⟩
  have hl := reqVals_len l
  have h1 : (cur.toList.take (l.length * 4))[j]? = (reqVals l)[j]? := by rw [ht]
  rw [List.getElem?_take_of_lt (by omega)] at h1
  simp only [World.cell?, hb, Nat.zero_add]
  simp only [Option.isSome_none, Bool.false_eq_true, if_false]
  rw [← Array.getElem?_toList, h1]
  simp [hj']
theorem heap_putQ {w : World} {g n : Nat} {os : Array Obj} {cur : Array Value} {e : TypeId} {fr : Nat × Nat} (F : Array Value) (hb : w.heap[g]? = some (.cells cur e fr)) :
    (grow (putRow id (Sort.ahead w n) g 0 F) os).heap[g]? = some (.cells (putCells id 0 F cur) e fr) := by
  have hg : g < w.heap.size := (Array.getElem?_eq_some_iff.1 hb).1
  rw [Go.Sort.heap_grow_old _ _ (by simpa [putRow, Go.Sort.mapBlock, Sort.ahead] using hg)]
  simp [putRow, Go.Sort.mapBlock, Sort.ahead, Array.getElem?_modify, hb, Go.Sort.onCells]
theorem grownBy_putQ {w : World} {g n : Nat} {os : Array Obj} (F : Array Value) : w.grownBy (grow (putRow id (Sort.ahead w n) g 0 F) os) (some g) := by
  refine ⟨rfl, rfl, rfl, by simp [putRow, Go.Sort.mapBlock, Sort.ahead], fun k hk hne => ?_⟩
  rw [Go.Sort.heap_grow_old _ _ (by simpa [putRow, Go.Sort.mapBlock, Sort.ahead] using hk)]
  have : g ≠ k := fun e => hne (by rw [e])
  simp [putRow, Go.Sort.mapBlock, Sort.ahead, Array.getElem?_modify, this]
theorem take_putQ (cur : Array Value) (l : List Value) (h : l.length ≤ cur.size) : (putCells id 0 l.toArray cur).toList.take l.length = l := by
  apply List.ext_getElem?
  intro j
  by_cases hj : j < l.length
  · rw [List.getElem?_take_of_lt hj, Array.getElem?_toList]
    simp [putCells, hj, show j < cur.size by omega]
  · rw [List.getElem?_take_eq_none (by omega), List.getElem?_eq_none (by omega)]
theorem cmpP (blk off size : Nat) (w : World) : CmpLays Tryz.prog 51 #[] encP 4 (cfK keyP) blk off size w := fun _ _ _ _ x y => byPriority_any x y _
def StableOut (blk : Nat) (d : Array ReqP) (w : World) (e : Ending) (w' : World) : Prop := e = .returned (.tuple #[]) ∧ ∃ d', StabR keyP d d' ∧ SortedK keyP 0 d.size d' ∧ ∃ n os, w' = sortWorldK encP 4 w blk 0 n d' os
set_option maxHeartbeats 2000000 in
set_option maxRecDepth 100000 in
theorem stable_small (blk cap : Nat) (d : Array ReqP) (w : World) (hH : HoldsK encP 4 w blk 0 d) (hblk : blk < w.heap.size) (hn : d.size < 20) :
    Calls Tryz.prog 83 #[.slice (some ⟨blk, 0, none⟩) d.size cap, .int .i64 (d.size : Int), .func (.func 51) #[] #[]] w (StableOut blk d w) := by
  have eg : ∀ args w, (callFunc 51 args).run Tryz.prog w = .ok (.enter 51 args) w := enters_of Tryz.func51 (by kernel_rfl) rfl
  have hI := AnyQ.insertionSortCmpFunc Tryz.insReqs 4 Tryz.isAgg61 Tryz.sizeOf61 encP encP_len encP_one (cfK keyP) 51 #[] blk 0 cap 0 d.size d w eg (cmpP _ _ _ _) hH hblk (Nat.zero_le _) (Nat.le_refl _) (by omega)
  have hI2 : Calls Tryz.prog 118 #[.slice (some ⟨blk, 0, none⟩) d.size cap, .int .i64 0, .int .i64 (d.size : Int), .func (.func 51) #[] #[]] w (StableOut blk d w) := hI.mono fun e w' ⟨h1, n, os, h2⟩ => ⟨h1, _, insertion_stab d 0 d.size (Nat.le_refl _), sortedK_of (insertionSort_holds (swoK keyP) d 0 d.size (Nat.zero_le _) (Nat.le_refl _)).2, n, os, h2⟩
  have HI := hid hI2
  have n1 : ¬ (20 : Int) ≤ (d.size : Int) := by omega
  have n2 : ¬ (20 : Int) < (d.size : Int) := by omega
  clear hI hI2 hH eg
  go_enter Tryz.func83, Tryz.ntmps83
  go_wp2_with fail
  refine wp_loop_rounds 1 ?_
  rw [rounds_succ]
  go_wp2_with fail
  refine HI.out.mono ?_
  rintro e w1 ⟨rfl, hO⟩
  have HO := hid hO
  clear hO
  go_wp2_with fail
  refine wp_loop_rounds 1 ?_
  rw [rounds_succ]
  go_wp2_with fail
  (try simp only [Exit.inBlock, Exit.then]); refine bodyPost_end (results_none rfl _ _ _) rfl ?_
  exact ⟨rfl, HO.out⟩
set_option maxHeartbeats 1000000 in
theorem stable_none (cap : Nat) (w : World) :
    Calls Tryz.prog 83 #[.slice none 0 cap, .int .i64 0, .func (.func 51) #[] #[]] w fun e w' => e = .returned (.tuple #[]) ∧ w' = w := by
  have HI := hid (AnyF.insertionSortCmpFunc_none Tryz.insReqs none cap (.func (.func 51) #[] #[]) w)
  go_enter Tryz.func83, Tryz.ntmps83
  go_wp2_with fail
  refine wp_loop_rounds 1 ?_
  rw [rounds_succ]
  go_wp2_with fail
  refine HI.out.mono ?_
  rintro e w1 ⟨rfl, rfl⟩
  go_wp2_with fail
  refine wp_loop_rounds 1 ?_
  rw [rounds_succ]
  go_wp2_with fail
  (try simp only [Exit.inBlock, Exit.then]); refine bodyPost_end (results_none rfl _ _ _) rfl ?_
  exact ⟨rfl, rfl⟩
def StableSaid (n : Nat) : Prop := ∀ (blk cap : Nat) (d : Array ReqP) (w : World), d.size = n → HoldsK encP 4 w blk 0 d → blk < w.heap.size →
  Calls Tryz.prog 83 #[.slice (some ⟨blk, 0, none⟩) d.size cap, .int .i64 (d.size : Int), .func (.func 51) #[] #[]] w (StableOut blk d w)
theorem said_small {n : Nat} (h : n < 20) : StableSaid n := fun blk cap d w hd hH hb => stable_small blk cap d w hH hb (by omega)
set_option maxHeartbeats 1000000 in
theorem sortStable_any (v : Value) (L : List ReqP) (B : Nat) (w : World) (hS : StableSaid L.length) (h : w.ownsRow B 61 4 v L.length (reqVals L)) (hB : B ≤ w.heap.size) :
    Calls Tryz.prog 50 #[v, .func (.func 51) #[] #[]] w fun e w' => e = .returned (.tuple #[]) ∧ (∃ L', Stab keyP L L' ∧ L'.length = L.length ∧ w'.ownsRow B 61 4 v L.length (reqVals L')) ∧ w.grownBy w' v.ownBlock := by
  have h' := h
  rcases h.2 with ⟨hv, h0⟩ | ⟨g, cap, cur, hv, hg0, hg, h1, h2, h3, h4⟩
  · have hl : L = [] := List.eq_nil_of_length_eq_zero h0
    subst hl
    subst hv
    have HN := hid (stable_none 0 w)
    have H' := hid h'
    clear h h' hS
    go_enter Tryz.func50, Tryz.ntmps50
    go_wp2_with fail
    refine HN.out.mono ?_
    rintro e w1 ⟨rfl, rfl⟩
    go_wp2_with fail
    (try simp only [Exit.inBlock, Exit.then]); refine bodyPost_end (results_none rfl _ _ _) rfl ?_
    exact ⟨rfl, ⟨[], Stab.nil, rfl, H'.out⟩, ⟨rfl, rfl, rfl, Nat.le_refl _, fun _ _ _ => rfl⟩⟩
  · subst hv
    have hlt := (Array.getElem?_eq_some_iff.1 hg).1
    have hH := holds_reqs (l := L) hg h4
    have hC := hS g cap L.toArray w (by simp) hH hlt
    have hsz : L.toArray.size = L.length := by simp
    rw [hsz] at hC
    have HC := hid hC
    have fin : ∀ w', (∃ d', StabR keyP L.toArray d' ∧ SortedK keyP 0 L.toArray.size d' ∧ ∃ n os, w' = sortWorldK encP 4 w g 0 n d' os) → (∃ L', Stab keyP L L' ∧ L'.length = L.length ∧ w'.ownsRow B 61 4 (.slice (some ⟨g, 0, none⟩) L.length cap) L.length (reqVals L')) ∧ w.grownBy w' (some g) := by
      rintro w' ⟨d', hs1, hs2, n, os, rfl⟩
      have hd' : d'.size = L.length := by rw [hs1.1]; simp
      have hst : Stab keyP L d'.toList := by
        have := stab_of hs1 (by rw [hs1.1]; exact hs2)
        simpa using this
      have hvl := reqVals_len d'.toList
      have hdl : d'.toList.length = L.length := by rw [Array.length_toList, hd']
      unfold sortWorldK putRowK
      rw [show flatK encP 4 d' = (reqVals d'.toList).toArray by rw [← flat_reqs]]
      refine ⟨⟨d'.toList, hst, hdl, by rw [hvl, hdl], .inr ⟨g, cap, _, rfl, hg0, heap_putQ _ hg, h1, h2, by simp [putCells, h3], ?_⟩⟩, grownBy_putQ _⟩
      rw [show L.length * 4 = (reqVals d'.toList).length by omega]
      exact take_putQ cur _ (by omega)
    have FIN := hid fin
    clear h h' hS hH hC hsz fin
    go_enter Tryz.func50, Tryz.ntmps50
    go_wp2_with fail
    refine HC.out.mono ?_
    rintro e w1 ⟨rfl, hO⟩
    have HO := hid (FIN.out w1 hO)
    clear hO
    go_wp2_with fail
    (try simp only [Exit.inBlock, Exit.then]); refine bodyPost_end (results_none rfl _ _ _) rfl ?_
    exact ⟨rfl, HO.out.1, HO.out.2⟩
end Go.Proofs.YtlgmanbilaminaaGreatDoor.S12
namespace Go.Proofs.YtlgmanbilaminaaGreatDoor
open Go Go.Proofs Go.RowKit Go.Lib
theorem results_ctt {fn : Func} {p u v : Tmp} {A : TypeId} (h : fn.results = #[.cell p A, .tmp u, .tmp v]) (tmps : Array Value) (P : Program) (w : World) (a : Addr) (va vc vd : Value)
    (ha : tmps.getD p undef = .pointer (some a)) (hc : tmps.getD u undef = vc) (hd : tmps.getD v undef = vd)
    (hla : (loadVar A a).run P w = .ok va w) : (results fn tmps).run P w = .ok (.tuple #[va, vc, vd]) w := by
  rw [Array.getD_eq_getD_getElem?] at ha hc hd
  simp only [results, h]
  simp [Result.andThen, ha, hc, hd, hla, asAddr]
theorem grown_of_below {w w' : World} (h : Below w.heap.size w w') : w.grownBy w' none := ⟨h.os, h.tape, h.output, h.size, fun k hk _ => h.block k hk⟩
theorem put_grown {W w2 : World} (hb : Below W.heap.size W w2) (R j : Nat) (v : Value) : W.grownBy (w2.setCell ⟨R, j, none⟩ v) (some R) :=
  ((grown_of_below hb).but (some R)).trans ⟨by simp [World.setCell], by simp [World.setCell], by simp [World.setCell], by simp [World.setCell], fun k _ hk => Below.heap_setCell w2 ⟨R, j, none⟩ v k (fun e => hk (by rw [show k = R from e]))⟩
end Go.Proofs.YtlgmanbilaminaaGreatDoor
namespace Go.Proofs.YtlgmanbilaminaaGreatDoor.S12
open Go Go.Proofs Go.RowKit Go.Lib Go.Sort Go.Proofs.YtlgmanbilaminaaGreatDoor
theorem Box4.put3' {w : World} {B : Nat} {v0 v1 v2 v3 : Value} (h : Box4 w B v0 v1 v2 v3) (u : Value) : Box4 (w.setCell ⟨B, 3, none⟩ u) B v0 v1 v2 u := ⟨by rw [heap_setCell_same w B 3 _ _ u h.h]; rfl⟩
def wantF (l : List ReqD) (s : Str) : List ReqD := l.filter (fun r => decide (r.s = s))
def wantM (l : List ReqD) (s : Str) : List ReqD := sortP (fun r : ReqD => r.p) (wantF l s)
theorem wantF_take (l : List ReqD) (s : Str) (i : Nat) (h : i < l.length) : wantF (l.take (i + 1)) s = if l[i].s = s then wantF (l.take i) s ++ [l[i]] else wantF (l.take i) s := by
  unfold wantF
  rw [List.take_succ_eq_append_getElem h, List.filter_append]
  by_cases hs : l[i].s = s
  · rw [if_pos hs, List.filter_cons_of_pos (by simpa using hs)]; rfl
  · rw [if_neg hs, List.filter_cons_of_neg (by simpa using hs)]; simp
theorem clone_any (A : Option Addr) (l : List Str) (c : Nat) (P : Nat → Prop) (w : World) (h : S3.StrsIn w P A l) (hn : l.length ≤ 8796093022208) :
    Calls Tryz.prog 49 #[.slice A l.length c] w fun e w' => (∃ v, e = .returned v ∧ S3.StrRow w' w.heap.size v l) ∧ Below w.heap.size w w' := by
  cases A with
  | none =>
    have hl : l = [] := by
      rcases h with h | ⟨b, off, e, _⟩
      · exact h
      · cases e
    subst hl
    refine (Tryz.slices_Clone_string_nil 0 c w).mono ?_
    rintro e w' ⟨rfl, rfl⟩
    exact ⟨⟨_, rfl, World.ownsRow_nil _ _ _ _⟩, Below.refl _ _⟩
  | some a =>
    rcases h with h | ⟨b, off, e, hb, hc⟩
    · subst h
      refine (Tryz.slices_Clone_string_zero a c w).mono ?_
      rintro e w' ⟨v, rfl, hown, _, hbl⟩
      exact ⟨⟨v, rfl, hown⟩, hbl⟩
    · injection e with e
      subst e
      have hz : (l.map ba).length = l.length := by simp
      refine (Tryz.slices_Clone_string b off l.length c (l.map ba) w (by rw [hz]; exact Nat.le_refl _) (by omega) (fun j hj => ?_)).mono ?_
      · rw [hz] at hj
        have h1 := hc j _ (List.getElem?_eq_getElem hj)
        rw [h1]
        simp [S3.strV, List.getD, hj, ba]
      · rintro e w' ⟨v, rfl, hown, _, hbl⟩
        refine ⟨⟨v, rfl, ?_⟩, hbl⟩
        rw [List.take_of_length_le (by rw [hz]; exact Nat.le_refl _), List.map_map] at hown
        exact hown
structure WInv (w : World) (v : Value) (Lr : List ReqP) (W : World) : Prop where
  row : W.ownsRow w.heap.size 61 4 v Lr.length (reqVals Lr)
  ins : ∀ p ∈ Lr, ReqIn W (fun k => w.heap.size ≤ k ∧ k < W.heap.size ∧ some k ≠ v.ownBlock) p.1 p.2
  b : Below w.heap.size w W
theorem WInv.start (w : World) : WInv w (.slice none 0 0) [] w := ⟨World.ownsRow_nil _ _ _ _, fun p hp => by simp at hp, Below.refl _ _⟩
theorem WInv.next {w W W' : World} {v : Value} {Lr : List ReqP} (h : WInv w v Lr W) (hb : Below W.heap.size W W') : WInv w v Lr W' :=
  ⟨row_under h.row hb, fun p hp => ((h.ins p hp).kept (fun k hk => hb.block k hk.2.1)).mono (fun k hk => ⟨hk.1, Nat.lt_of_lt_of_le hk.2.1 hb.size, hk.2.2⟩), h.b.trans (hb.mono h.b.size)⟩
theorem WInv.past {w W W' : World} {v : Value} {Lr : List ReqP} {R : Nat} (h : WInv w v Lr W) (hg : W.grownBy W' (some R)) (hR : W.heap.size ≤ R) : WInv w v Lr W' := by
  have hs := hg.size
  have hw := h.b.size
  refine ⟨World.ownsRow.kept h.row hg ?_, fun p hp => ((h.ins p hp).kept (fun k hk => hg.block k hk.2.1 (fun e => by injection e; omega))).mono (fun k hk => ⟨hk.1, by omega, hk.2.2⟩), h.b.grown hg h.b.size (fun k e => by injection e; omega)⟩
  rcases hv : v.ownBlock with _ | g
  · exact .inl rfl
  · exact .inr (fun e => by have := (own_lt h.row g hv).2; injection e with e; omega)
theorem WInv.snoc {w wr W3 W5 : World} {v v' : Value} {Lr : List ReqP} {r : ReqD} {q : ReqA} {o : Obj} (h : WInv w v Lr W3) (hlt : ∀ k, v.ownBlock = some k → k < wr.heap.size) (hwr : w.heap.size ≤ wr.heap.size) (hr : ReqIn W3 (fun k => wr.heap.size < k ∧ k < W3.heap.size) r q)
    (hown : W5.ownsRow w.heap.size 61 4 v' (Lr.length + 1) (reqVals Lr ++ reqVs r q)) (hgrow : (W3.alloc o).grownBy W5 v.ownBlock) (hat : v'.ownBlock = v.ownBlock ∨ v'.ownBlock = some (W3.alloc o).heap.size) : WInv w v' (Lr ++ [(r, q)]) W5 := by
  have hg := grownBy_of_alloc hgrow
  have hs := hg.size
  have hsa : (W3.alloc o).heap.size = W3.heap.size + 1 := by simp
  have hne : ∀ k, k < W3.heap.size → some k ≠ v.ownBlock → some k ≠ v'.ownBlock := by
    intro k hk hn
    rcases hat with e | e
    · rw [e]; exact hn
    · rw [e]; intro e0; injection e0 with e0; omega
  refine ⟨?_, fun p hp => ?_, h.b.grown hg h.b.size (fun k e => (own_lt h.row k e).1)⟩
  · rw [reqVals_app, List.length_append, List.length_singleton]
    simpa [reqVals] using hown
  · rcases List.mem_append.1 hp with hp | hp
    · exact ((h.ins p hp).kept (fun k hk => hg.block k hk.2.1 hk.2.2)).mono (fun k hk => ⟨hk.1, by omega, hne k hk.2.1 hk.2.2⟩)
    · rw [List.mem_singleton] at hp
      subst hp
      have k1 : ∀ k, wr.heap.size < k → some k ≠ v.ownBlock := fun k hk e => by have := hlt k e.symm; omega
      exact (hr.kept (fun k hk => hg.block k hk.2 (k1 k hk.1))).mono (fun k hk => ⟨by omega, by omega, hne k hk.2 (k1 k hk.1)⟩)
def WantOut (o : List ReqD) (w : World) (e : Ending) (w' : World) : Prop := (∃ v, e = .returned v ∧ ReqRow w' w.heap.size (fun k => w.heap.size ≤ k ∧ k < w'.heap.size) v o) ∧ Below w.heap.size w w'
set_option maxHeartbeats 16000000 in
set_option maxRecDepth 100000 in
theorem wanted_any (A : Option Addr) (l : List ReqD) (c : Nat) (x : ByteArray) (w : World) (h : ReqsIn w (fun k => k < w.heap.size) A l) (hl : l.length ≤ 1099511627776) (hi : ∀ r ∈ l, r.l.length ≤ 8796093022208) (hS : StableSaid (wantF l (lst x)).length) :
    Calls Tryz.prog 20 #[.slice A l.length c, .string x] w (WantOut (wantM l (lst x)) w) := by
  obtain ⟨i5, hi5, hz5, hs5, hb5⟩ := info_parts infoReq
  unfold WantOut
  have HH := hid (fun (w' : World) (hb : Below w.heap.size w w') => h.below hb)
  have HI := hid hi
  have HL := hid hl
  have HS := hid hS
  have HW0 := hid (WInv.start w)
  clear h hi hS hl
  go_enter Tryz.func20, Tryz.ntmps20
  go_wp2
  go_loopw [5, 10] (fun v iv wr => ∃ (i : Nat) (Lr : List ReqP) (Av : Option Addr) (nv cv : Nat), v = .slice Av nv cv ∧ iv = .int .i64 (i : Int) ∧ i ≤ l.length ∧ Hid (Lr.map (·.1) = wantF (l.take i) (lst x)) ∧ Hid (Lr.length = nv) ∧ Hid (WInv w (.slice Av nv cv) Lr wr)) (fun _ iv _ => l.length - (RowKit.intOf iv).toNat)
  case atStart => exact ⟨0, [], none, 0, 0, rfl, rfl, Nat.zero_le _, hid rfl, hid rfl, HW0⟩
  case round =>
    obtain ⟨i, Lr, Av, nv, cv, rfl, rfl, hi, hM, hN, hW⟩ := hrel
    by_cases hlt : i < l.length
    · have hltz : (i : Int) < (l.length : Int) := by omega
      have hib : i + 1 ≤ 1099511627776 := by have := HL.out; omega
      obtain ⟨fb, fo, q, rfl, hfb, hri, y0, y1, y2, y3⟩ := (HH.out _ hW.out.b).at_ hlt
      have hst := wantF_take l (lst x) i hlt
      have hil := HI.out _ (List.getElem_mem hlt)
      have hb1 := (Below.refl wr.heap.size wr).alloc (Nat.le_refl _) (.cells #[.string (ba l[i].s), .string (ba l[i].c), .int .i64 l[i].p, .slice q.1 l[i].l.length q.2] 61)
      have hX := Box4.new wr (.string (ba l[i].s)) (.string (ba l[i].c)) (.int .i64 l[i].p) (.slice q.1 l[i].l.length q.2)
      have cC := fun W (hb : Below wr.heap.size wr W) => clone_any q.1 l[i].l q.2 _ W ((hri.below (hb.mono hW.out.b.size)).t) hil
      have hin := hri
      obtain ⟨⟨s, co, p, ins⟩, hr⟩ : ∃ r, l[i] = r := ⟨_, rfl⟩
      rw [hr] at y0 y1 y2 y3 hst hb1 hX cC hin
      dsimp only at y0 y1 y2 y3 hst hb1 hX cC hil
      obtain ⟨S, hSs⟩ : ∃ S, ba s = S := ⟨_, rfl⟩
      obtain ⟨C, hCo⟩ : ∃ S, ba co = S := ⟨_, rfl⟩
      obtain ⟨n, hn⟩ : ∃ n, ins.length = n := ⟨_, rfl⟩
      rw [hSs] at y0 hb1 hX
      rw [hCo] at y1 hb1 hX
      rw [hn] at y3 hb1 hX cC
      have hSl : S.toList = s := by rw [Lib.toList_data, ← hSs]; rfl
      have hXl : x.toList = lst x := Lib.toList_data x
      have HSs := hid hSs
      have HCo := hid hCo
      have HNN := hid hn
      have HB1 := hid hb1
      have HX := hid hX
      have CC := hid cC
      by_cases hs : s = lst x
      · rw [if_pos hs] at hst
        have hbe : (S.toList == x.toList) = true := by rw [hSl, hXl, hs]; simp
        have HST := hid hst
        have hown := fun k e => (own_lt hW.out.row k e).2
        have HOL := hid hown
        clear hst hs hr hri hin hSs hCo hn hb1 hX cC hSl hXl hil hfb hown
        go_wp2_with fail
        generalize wr.alloc (.cells #[.string S, .string C, .int .i64 p, .slice q.1 n q.2] 61) = w1 at HB1 HX ⊢
        refine (CC.out w1 HB1.out).mono ?_
        rintro e w2 ⟨⟨v2, rfl, hrow⟩, hb2⟩
        obtain ⟨A2, c2, rfl, g1, g2, g3⟩ := hrow.strsIn
        have HX2 := hid (HX.out.next hb2)
        have hb12 : Below wr.heap.size wr w2 := HB1.out.trans (hb2.mono HB1.out.size)
        have HB12 := hid hb12
        have hlx := HX.out.lt
        have hg3 : S3.StrsIn w2 (fun k => wr.heap.size < k ∧ k < w2.heap.size) A2 ins := g3.mono (fun k hk => ⟨by omega, hk.2⟩)
        have HG3 := hid hg3
        have HG1 := hid (And.intro g1 g2)
        have hnn := HNN.out
        rw [hnn]
        clear hb2 hrow g1 g2 g3 hg3 hb12 hnn
        obtain ⟨x0, x1, x2, x3⟩ := HX2.out.cells
        have hf := HX2.out.free 3
        have hg := hid (put_grown HB12.out wr.heap.size 3 (.slice A2 n c2))
        have HB5 := hid (Box4.put3' HX2.out (.slice A2 n c2))
        have hW3 := hid (hW.out.past hg.out (Nat.le_refl _))
        have hRI : ReqIn (w2.setCell ⟨wr.heap.size, 3, none⟩ (.slice A2 n c2)) (fun k => wr.heap.size < k ∧ k < (w2.setCell ⟨wr.heap.size, 3, none⟩ (.slice A2 n c2)).heap.size) ⟨s, co, p, ins⟩ (A2, c2) :=
          ⟨(HG3.out.kept (fun b hb => Below.heap_setCell w2 ⟨wr.heap.size, 3, none⟩ _ b (fun e => by have : b = wr.heap.size := e; omega))).mono (fun b hb => ⟨hb.1, by simpa [World.setCell] using hb.2⟩), HG1.out.1, HG1.out.2⟩
        have HRI := hid hRI
        have hn5 := four_newR (w2.setCell ⟨wr.heap.size, 3, none⟩ (.slice A2 n c2)) ⟨s, co, p, ins⟩ (A2, c2)
        unfold reqVs at hn5
        dsimp only at hn5
        rw [HSs.out, HCo.out, HNN.out, show (w2.setCell ⟨wr.heap.size, 3, none⟩ (.slice A2 n c2)).heap.size = w2.heap.size by simp] at hn5
        have HN5 := hid hn5
        have hvs : reqVs ⟨s, co, p, ins⟩ (A2, c2) = [.string S, .string C, .int .i64 p, .slice A2 n c2] := by unfold reqVs; dsimp only; rw [HSs.out, HCo.out, HNN.out]
        have HON : Hid (∀ u ∈ [Value.string S, .string C, .int .i64 p, .slice A2 n c2], u.oneCell' = true) := hid (by rw [← hvs]; exact req_one _ _)
        have HVS := hid hvs
        have hnl : Lr.length ≤ l.length := by
          have := congrArg List.length hM.out
          rw [List.length_map] at this
          rw [this]
          exact Nat.le_trans (List.length_filter_le _ _) (by simp; omega)
        have HMX : Hid (nv + 1 ≤ maxLen) := hid (by have := hN.out; have := HL.out; unfold maxLen; omega)
        have HBY : Hid ((nv + 1) * 64 ≤ 140737488355328) := hid (by have := hN.out; have := HL.out; omega)
        have hrow3 := hW3.out.row
        rw [hN.out] at hrow3
        have HR3 := hid (World.ownsRow.alloc hrow3 (.cells #[.string S, .string C, .int .i64 p, .slice A2 n c2] 61))
        have HWS : Hid (w.heap.size ≤ ((w2.setCell ⟨wr.heap.size, 3, none⟩ (.slice A2 n c2)).alloc (.cells #[.string S, .string C, .int .i64 p, .slice A2 n c2] 61)).heap.size) := hid (by have := hW3.out.b.size; simp at this ⊢; omega)
        clear hRI hn5 hvs hnl hrow3
        go_wp2_with (at_builtin; refine wpList_append_own_at _ rfl _ _ 22 rfl w.heap.size 61 i5 (.agg #[.string ⟨#[]⟩, .string ⟨#[]⟩, .int .i64 0, .slice none 0 0]) 4 64 Tryz.underlying22 hi5 hz5 hs5 hb5 rfl (by decide) _ nv (reqVals Lr) rfl HR3.out ⟨w2.heap.size, 0, none⟩ 1 1 [.string S, .string C, .int .i64 p, .slice A2 n c2] rfl rfl HN5.out HON.out HMX.out HBY.out HWS.out ?_)
        intro v' w5 hown' hgrow _ hat
        obtain ⟨g', cap', rfl⟩ := ownsRow_succ (k := nv) hown'
        rw [← HVS.out, ← hN.out] at hown'
        have hW5 := WInv.snoc (v' := .slice (some ⟨g', 0, none⟩) (nv + 1) cap') hW3.out HOL.out hW.out.b.size HRI.out (by rw [hN.out] at hown' ⊢; exact hown') hgrow (hat.imp id (fun h => h.trans (by simp)))
        have HW5 := hid hW5
        clear hW5 hown' hgrow hat
        go_wp2_with fail
        go_roundw
        case rel => exact ⟨i + 1, Lr ++ [(⟨s, co, p, ins⟩, (A2, c2))], _, _, _, rfl, by go_num, by omega, hid (by rw [HST.out, List.map_append, hM.out]; rfl), hid (by rw [List.length_append, List.length_singleton, hN.out]), HW5⟩
        case measure => simp [RowKit.intOf]; omega
      · rw [if_neg hs] at hst
        have hbe : (S.toList == x.toList) = false := by rw [hSl, hXl]; simpa using hs
        have HST := hid hst
        have HW1 := hid (hW.out.next HB1.out)
        clear hst hs hr hri hin hSs hCo hn hb1 hX cC hSl hXl hil hfb
        go_wp2
        go_roundw
        case rel => exact ⟨i + 1, Lr, Av, nv, cv, rfl, by go_num, by omega, hid (by rw [HST.out]; exact hM.out), hid hN.out, hid HW1.out⟩
        case measure => simp [RowKit.intOf]; omega
    · have hltz : ¬ (i : Int) < (l.length : Int) := by omega
      rw [List.take_of_length_le (by omega)] at hM
      obtain rfl := hN.out
      have hSS : StableSaid Lr.length := by
        have := HS.out
        rw [← hM.out, List.length_map] at this
        exact this
      have cS := hid (sortStable_any (.slice Av Lr.length cv) Lr w.heap.size wr hSS hW.out.row hW.out.b.size)
      clear hSS
      go_wp2_with fail
      refine cS.out.mono ?_
      rintro e w2 ⟨rfl, ⟨L', hst, hll, hrow⟩, hg⟩
      have HST := hid hst
      have HLL := hid hll
      have HROW := hid hrow
      have HG := hid hg
      clear hst hll hrow hg cS
      go_wp2
      go_ret
      have hb : Below w.heap.size w w2 := hW.out.b.grown HG.out hW.out.b.size (fun k e => (own_lt hW.out.row k e).1)
      have hmap : L'.map (·.1) = wantM l (lst x) := by
        have h1 : Stab (fun r : ReqD => r.p) (Lr.map (·.1)) (L'.map (·.1)) := stab_map (key := fun r : ReqD => r.p) (fun p : ReqP => p.1) HST.out
        rw [hM.out] at h1
        exact sortP_unique h1
      have hlen : (wantM l (lst x)).length = Lr.length := by rw [← hmap, List.length_map, HLL.out]
      refine ⟨⟨_, rfl, L', hmap, by rw [hlen]; exact HROW.out, fun p hp => ?_⟩, hb⟩
      have hpm : p ∈ Lr := by
        have h1 : p ∈ L'.filter (fun x => decide (keyP x = keyP p)) := List.mem_filter.2 ⟨hp, by simp⟩
        rw [HST.out.1 (keyP p)] at h1
        exact (List.mem_filter.1 h1).1
      exact ((hW.out.ins p hpm).kept (fun k hk => HG.out.block k hk.2.1 hk.2.2)).mono (fun k hk => ⟨hk.1, Nat.lt_of_lt_of_le hk.2.1 HG.out.size⟩)
end Go.Proofs.YtlgmanbilaminaaGreatDoor.S12
namespace Go.Proofs.YtlgmanbilaminaaGreatDoor
open Go Go.Proofs Go.RowKit Go.Lib
def colsM : Int → List Str → List FieldD
  | _, [] => []
  | c, s :: r => (s, c, false) :: colsM (c + ((s.length : Int) + 1)) r
def colAt : Int → List Str → Int
  | c, [] => c
  | c, s :: r => colAt (c + ((s.length : Int) + 1)) r
theorem colsM_app : ∀ (c : Int) (a b : List Str), colsM c (a ++ b) = colsM c a ++ colsM (colAt c a) b
  | c, [], b => rfl
  | c, s :: r, b => by simp [colsM, colAt, colsM_app _ r b]
theorem colAt_snoc : ∀ (c : Int) (a : List Str) (s : Str), colAt c (a ++ [s]) = colAt c a + ((s.length : Int) + 1)
  | c, [], s => rfl
  | c, t :: r, s => by simp [colAt, colAt_snoc _ r s]
theorem colsM_len : ∀ (c : Int) (a : List Str), (colsM c a).length = a.length
  | c, [] => rfl
  | c, s :: r => by simp [colsM, colsM_len _ r]
theorem colAt_range : ∀ (c : Int) (a : List Str), (∀ s ∈ a, s.length ≤ 1000000) → c ≤ colAt c a ∧ colAt c a ≤ c + a.length * 1000001
  | c, [], _ => by simp [colAt]
  | c, s :: r, h => by
    have h1 := h s (by simp)
    have h2 := colAt_range (c + ((s.length : Int) + 1)) r (fun t ht => h t (by simp [ht]))
    simp only [colAt, List.length_cons]
    omega
def plainM (l : List (List Str)) : List RecD := l.mapIdx fun i r => ((i : Int) + 1, colsM 1 r)
theorem plainM_len (l : List (List Str)) : (plainM l).length = l.length := by simp [plainM]
theorem plainM_take (l : List (List Str)) (i : Nat) (h : i < l.length) : plainM (l.take (i + 1)) = plainM (l.take i) ++ [((i : Int) + 1, colsM 1 l[i])] := by
  rw [List.take_succ_eq_append_getElem h]
  unfold plainM
  rw [List.mapIdx_append]
  congr 1
  simp [Nat.min_eq_left (Nat.le_of_lt h)]
theorem infoField : (Tryz.prog.info? 99).map (fun i => (i.zero, i.size, i.bytes)) = some (some (.agg #[.string ⟨#[]⟩, .int .i64 0, .bool false]), 3, 32) := by kernel_rfl
theorem infoRec : (Tryz.prog.info? 26).map (fun i => (i.zero, i.size, i.bytes)) = some (some (.agg #[.int .i64 0, .slice none 0 0]), 2, 32) := by kernel_rfl
def fieldVals (l : List FieldD) : List Value := l.flatMap fieldVs
theorem fieldVals_app (a b : List FieldD) : fieldVals (a ++ b) = fieldVals a ++ fieldVals b := by simp [fieldVals]
theorem fieldVals_get : ∀ (l : List FieldD) (j : Nat) (t : FieldD), l[j]? = some t → ∀ (i : Nat) (v : Value), (fieldVs t)[i]? = some v → (fieldVals l)[j * 3 + i]? = some v
  | [], j, t, h, _, _, _ => by simp at h
  | a :: r, 0, t, h, i, v, hv => by
    simp at h
    subst h
    have hi : i < 3 := (List.getElem?_eq_some_iff.1 hv).1
    unfold fieldVals
    rw [List.flatMap_cons, List.getElem?_append_left (by show _ < 3; omega)]
    simpa using hv
  | a :: r, j + 1, t, h, i, v, hv => by
    have := fieldVals_get r j t (by simpa using h) i v hv
    unfold fieldVals at this ⊢
    rw [List.flatMap_cons, List.getElem?_append_right (by show 3 ≤ _; omega)]
    show (List.flatMap fieldVs r)[(j + 1) * 3 + i - 3]? = _
    rw [show (j + 1) * 3 + i - 3 = j * 3 + i by omega]
    exact this
def FieldRow (w : World) (B : Nat) (v : Value) (l : List FieldD) : Prop := w.ownsRow B 99 3 v l.length (fieldVals l)
theorem FieldRow.fieldsIn {w : World} {B : Nat} {v : Value} {l : List FieldD} (h : FieldRow w B v l) : ∃ A c, v = .slice A l.length c ∧ l.length ≤ c ∧ c ≤ 9223372036854775807 ∧ FieldsIn w (fun b => v.ownBlock = some b) A l := by
  have h' := h
  rcases h.2 with ⟨hv, h0⟩ | ⟨g, cap, cur, hv, hB, hg, h1, h2, _⟩
  · have hl : l = [] := List.eq_nil_of_length_eq_zero h0
    subst hl
    exact ⟨none, 0, hv, Nat.le_refl _, by omega, .inl rfl⟩
  · refine ⟨_, cap, hv, h1, by unfold maxLen at h2; omega, .inr ⟨g, 0, rfl, by rw [hv]; rfl, fun j t hj i v' hv' => ?_⟩⟩
    have := World.ownsRow.cells h' (g := g) (by rw [hv]; rfl) (j * 3 + i) v' (fieldVals_get l j t hj i v' hv')
    rw [Addr.add_lit] at this
    rw [← Nat.add_assoc] at this
    exact this
abbrev RecA := RecD × (Option Addr × Nat)
def recVs (p : RecA) : List Value := [.int .i64 p.1.1, .slice p.2.1 p.1.2.length p.2.2]
def recVals (l : List RecA) : List Value := l.flatMap recVs
theorem recVals_app (a b : List RecA) : recVals (a ++ b) = recVals a ++ recVals b := by simp [recVals]
theorem recVals_get : ∀ (l : List RecA) (j : Nat) (t : RecA), l[j]? = some t → ∀ (i : Nat) (v : Value), (recVs t)[i]? = some v → (recVals l)[j * 2 + i]? = some v
  | [], j, t, h, _, _, _ => by simp at h
  | a :: r, 0, t, h, i, v, hv => by
    simp at h
    subst h
    have hi : i < 2 := (List.getElem?_eq_some_iff.1 hv).1
    unfold recVals
    rw [List.flatMap_cons, List.getElem?_append_left (by show _ < 2; omega)]
    simpa using hv
  | a :: r, j + 1, t, h, i, v, hv => by
    have := recVals_get r j t (by simpa using h) i v hv
    unfold recVals at this ⊢
    rw [List.flatMap_cons, List.getElem?_append_right (by show 2 ≤ _; omega)]
    show (List.flatMap recVs r)[(j + 1) * 2 + i - 2]? = _
    rw [show (j + 1) * 2 + i - 2 = j * 2 + i by omega]
    exact this
def RecRow (w : World) (B : Nat) (v : Value) (l : List RecD) : Prop := ∃ L : List RecA, L.map (·.1) = l ∧ w.ownsRow B 26 2 v L.length (recVals L) ∧
  ∀ p ∈ L, FieldsIn w (fun b => B ≤ b ∧ b < w.heap.size ∧ v.ownBlock ≠ some b) p.2.1 p.1.2 ∧ p.1.2.length ≤ p.2.2 ∧ p.2.2 ≤ 9223372036854775807
theorem RecRow.recsIn {w : World} {B : Nat} {v : Value} {l : List RecD} (h : RecRow w B v l) : ∃ A c, v = .slice A l.length c ∧ l.length ≤ c ∧ c ≤ 9223372036854775807 ∧ RecsIn w (fun b => B ≤ b ∧ b < w.heap.size) A l := by
  obtain ⟨L, rfl, h, hL⟩ := h
  have h' := h
  have hn : (L.map (·.1)).length = L.length := List.length_map _
  rcases h.2 with ⟨hv, h0⟩ | ⟨g, cap, cur, hv, hB, hg, h1, h2, _⟩
  · have hl : L = [] := List.eq_nil_of_length_eq_zero h0
    subst hl
    exact ⟨none, 0, by rw [hv]; rfl, Nat.le_refl _, by omega, .inl rfl⟩
  · refine ⟨_, cap, by rw [hn]; exact hv, by rw [hn]; exact h1, by unfold maxLen at h2; omega, .inr ⟨g, 0, rfl, ⟨hB, (Array.getElem?_eq_some_iff.1 hg).1⟩, fun j r hj => ?_⟩⟩
    rw [List.getElem?_map] at hj
    obtain ⟨p, hp, rfl⟩ := Option.map_eq_some_iff.1 hj
    obtain ⟨f1, f2, f3⟩ := hL p (List.mem_of_getElem? hp)
    refine ⟨p.2.1, p.2.2, f1.mono (fun b hb => ⟨hb.1, hb.2.1⟩), f2, f3, ?_, ?_⟩
    · have := World.ownsRow.cells h' (g := g) (by rw [hv]; rfl) (j * 2 + 0) _ (recVals_get L j p hp 0 _ rfl)
      rw [Addr.add_lit] at this
      rw [← Nat.add_assoc] at this
      exact this
    · have := World.ownsRow.cells h' (g := g) (by rw [hv]; rfl) (j * 2 + 1) _ (recVals_get L j p hp 1 _ rfl)
      rw [Addr.add_lit] at this
      rw [← Nat.add_assoc] at this
      exact this
theorem app_ba (a b : Str) : ba a ++ ba b = ba (a ++ b) := by
  apply ByteArray.ext
  simp [ba]
theorem add_ba (x y : Str) (h : x.length + y.length ≤ 9223372036854775807) : ∀ w, (Op.stringOp .add (ba x) (ba y)).run Tryz.prog w = .ok (.string (ba (x ++ y))) w := fun w => by
  rw [run_string_add_sum (w := w) _ _ (by rw [ba_size, ba_size]; exact h), app_ba]
theorem dec_one (u : Nat) (h : u < 10) : dec2 u = [UInt8.ofNat (48 + u)] := if_pos h
set_option maxHeartbeats 2000000 in
theorem rdec1_any (u : Nat) (h : u < 10) (w : World) : Calls Tryz.prog 37 #[.int .i64 (u : Int)] w fun e w' => e = .returned (.string (ba (dec2 u))) ∧ Below w.heap.size w w' := by
  rw [dec_one u h]
  obtain ⟨x, hx⟩ : ∃ x : UInt8, UInt8.ofNat (48 + u) = x := ⟨_, rfl⟩
  have hxn : (x.toNat : Int) = 48 + (u : Int) := by rw [← hx]; simp; omega
  rw [hx]
  have hz : (u : Int) < 10 := by omega
  have q1 : IntKind.i64.wrap (48 + (u : Int)) = (x.toNat : Int) := by rw [hxn]; exact IntWalk.i64_in _ (by omega)
  have q1' : 48 + (u : Int) = (x.toNat : Int) := hxn.symm
  have q2 : IntKind.u8.wrap (x.toNat : Int) = (x.toNat : Int) := by simp [IntKind.wrap, IntKind.bits, IntKind.signed]; omega
  have hcv : (Go.convert 59 9 (.slice (some ⟨w.heap.size, 0, none⟩) 1 1)).run Tryz.prog (w.alloc (.cells #[.int .u8 (x.toNat : Int)] 5)) = .ok (.string (ba [x])) (w.alloc (.cells #[.int .u8 (x.toNat : Int)] 5)) :=
    run_convert_bytes_back (w.alloc (.cells #[.int .u8 (x.toNat : Int)] 5)) 59 9 5 ⟨w.heap.size, 0, none⟩ 1 [x] Tryz.underlying59 Tryz.underlying5 Tryz.underlying9 (fun j hj => by
      obtain rfl : j = 0 := by simpa using hj
      simp [Addr.add])
  have HB : Hid (Below w.heap.size w (w.alloc (.cells #[.int .u8 (x.toNat : Int)] 5))) := hid ((Below.refl _ w).alloc (Nat.le_refl _) _)
  clear hx hxn
  go_enter Tryz.func37, Tryz.ntmps37
  go_wp2
  go_ret
  exact ⟨rfl, HB.out⟩
structure K2 (w0 : World) (a b c d a' b' c' d' : Int) (w : World) : Prop where
  x : Box4 w w0.heap.size a b c d
  y : Box4 w (w0.heap.size + 1) a' b' c' d'
  b : Below w0.heap.size w0 w
section
variable {w0 w w' : World} {a b c d a' b' c' d' : Int}
end
theorem dd_step (u : Nat) (h : ¬ u < 10) : decDigits u = decDigits (u / 10) ++ decDigits (u % 10) := by
  rw [decDigits, dif_neg h, decDigits_one (show u % 10 < 10 by omega)]
theorem dd_len : ∀ (f u : Nat), u < 10 ^ (f + 1) → (decDigits u).length ≤ f + 1
  | 0, u, h => by rw [decDigits_one (by simpa using h)]; simp
  | f + 1, u, h => by
    by_cases hu : u < 10
    · rw [decDigits_one hu]; simp
    · rw [dd_step u hu, List.length_append, decDigits_one (show u % 10 < 10 by omega)]
      have := dd_len f (u / 10) (by rw [Nat.div_lt_iff_lt_mul (by omega)]; rw [Nat.pow_succ] at h; exact h)
      simp
      omega
set_option maxHeartbeats 2000000 in
set_option maxRecDepth 100000 in
theorem rdecG : ∀ (f u : Nat), f ≤ 10 → u < 10 ^ (f + 1) → ∀ w : World, Calls Tryz.prog 37 #[.int .i64 (u : Int)] w fun e w' => e = .returned (.string (ba (decDigits u))) ∧ Below w.heap.size w w'
  | 0, u, _, h => fun w => by
    have hu : u < 10 := by simpa using h
    rw [decDigits_one hu, ← dec_one u hu]
    exact rdec1_any u hu w
  | f + 1, u, hf, h => fun w => by
    by_cases hu : u < 10
    · rw [decDigits_one hu, ← dec_one u hu]
      exact rdec1_any u hu w
    · rw [dd_step u hu]
      have h10 : u / 10 < 10 ^ (f + 1) := by rw [Nat.div_lt_iff_lt_mul (by omega)]; rw [Nat.pow_succ] at h; exact h
      have hub : u < 1000000000000 := Nat.lt_of_lt_of_le h (Nat.le_trans (Nat.pow_le_pow_right (by omega) (show f + 1 + 1 ≤ 12 by omega)) (by decide))
      have cA := hid (fun w => rdecG f (u / 10) (by omega) h10 w)
      have cB : Hid (∀ w : World, Calls Tryz.prog 37 #[.int .i64 ((u % 10 : Nat) : Int)] w fun e w' => e = .returned (.string (ba (decDigits (u % 10)))) ∧ Below w.heap.size w w') := hid (fun w => by
        rw [decDigits_one (show u % 10 < 10 by omega), ← dec_one (u % 10) (by omega)]
        exact rdec1_any (u % 10) (by omega) w)
      have l1 := dd_len f (u / 10) h10
      have l2 : (decDigits (u % 10)).length ≤ 1 := by rw [decDigits_one (show u % 10 < 10 by omega)]; simp
      have s1 := add_ba (decDigits (u / 10)) (decDigits (u % 10)) (by omega)
      have hz : ¬ (u : Int) < 10 := by omega
      have i1 : (u : Int) / 10 = ((u / 10 : Nat) : Int) := by omega
      have i2 : (u : Int) % 10 = ((u % 10 : Nat) : Int) := by omega
      obtain ⟨p, hp⟩ : ∃ p, u / 10 = p := ⟨_, rfl⟩
      obtain ⟨q, hq⟩ : ∃ q, u % 10 = q := ⟨_, rfl⟩
      rw [hp] at cA i1 s1 l1 ⊢
      rw [hq] at cB i2 s1 l2 ⊢
      clear hp hq h10 h
      go_enter Tryz.func37, Tryz.ntmps37
      go_wp2_with fail
      refine (cA.out _).mono ?_
      rintro e w1 ⟨rfl, hb1⟩
      have HB1 := hid hb1
      clear hb1
      go_wp2_with fail
      refine (cB.out _).mono ?_
      rintro e w2 ⟨rfl, hb2⟩
      have HB2 := hid (HB1.out.trans (hb2.mono HB1.out.size))
      clear hb2
      go_wp2
      go_ret
      exact ⟨rfl, HB2.out⟩
theorem rdec4_any (n : Int) (h0 : 0 ≤ n) (h1 : n ≤ 9999) (w : World) : Calls Tryz.prog 37 #[.int .i64 n] w (Says (.string (ba (decDigits n.toNat))) w) := by
  have := rdecG 3 n.toNat (by omega) (by omega) w
  rwa [Int.toNat_of_nonneg h0] at this
theorem itoa4_any (n : Int) (h0 : 0 ≤ n) (h1 : n ≤ 9999) (w : World) (hE : S3.Env w) : Calls Tryz.prog 59 #[.int .i64 n] w (Says (.string (ba (decDigits n.toNat))) w) := by
  refine (Tryz.strconv_Itoa n (by omega) (by omega) w hE.tab).mono ?_
  rintro e w' ⟨rfl, k, os, rfl⟩
  refine ⟨?_, ?_⟩
  · rw [show Lib.itoa n = decDigits n.toNat from if_neg (by omega)]
    rfl
  · exact Lib.below_grow _ _ (Nat.le_refl _) _ _
end Go.Proofs.YtlgmanbilaminaaGreatDoor
set_option maxRecDepth 100000
namespace Go.Proofs.YtlgmanbilaminaaGreatDoor.S12
open Go Go.Proofs Go.RowKit Go.Lib Go.Proofs.YtlgmanbilaminaaGreatDoor Go.Proofs.YtlgmanbilaminaaGreatDoor.S10 Go.Proofs.YtlgmanbilaminaaGreatDoor.S11
theorem colsM_memQ : ∀ (c : Int) (l : List Str) (f : FieldD), f ∈ colsM c l → f.1 ∈ l
  | c, [], f, h => by simp [colsM] at h
  | c, s :: r, f, h => by
    simp only [colsM, List.mem_cons] at h
    rcases h with rfl | h
    · simp
    · exact List.mem_cons_of_mem _ (colsM_memQ _ r f h)
theorem plainM_memQ {l : List (List Str)} {x : RecD} (h : x ∈ plainM l) : ∀ f ∈ x.2, ∃ r ∈ l, f.1 ∈ r := by
  unfold plainM at h
  obtain ⟨i, hi, rfl⟩ := List.mem_mapIdx.1 h
  exact fun f hf => ⟨l[i], List.getElem_mem hi, colsM_memQ _ _ f hf⟩
theorem acc_ok {pre : List ReqD} {r : ReqD} (h : (r.s, r.c) ∉ wishes pre) (hl : pre.length < 64) : accM pre r = 0 := by
  have := studs_len pre
  unfold accM
  rw [if_neg (fun k => by omega), if_neg h, if_neg (by omega)]
theorem wish_new {pre l : List ReqD} {r : ReqD} (h : (wishes (pre ++ r :: l)).Nodup) : (r.s, r.c) ∉ wishes pre := by
  unfold wishes at h ⊢
  rw [List.map_append, List.nodup_append] at h
  intro hm
  exact h.2.2 _ hm _ (by simp) rfl
theorem goQ_made : ∀ (l pre : List ReqD), (wishes (pre ++ l)).Nodup → (pre ++ l).length ≤ 60 → (∀ r ∈ l, reqM r = 0) → goQ pre l = 0
  | [], _, _, _, _ => rfl
  | r :: l, pre, h, hl, hr => by
    have h1 := acc_ok (wish_new h) (by simp at hl; omega)
    have h2 := hr r (by simp)
    unfold goQ
    rw [if_neg (by simp [h2]), if_neg (by simp [h1])]
    exact goQ_made l (pre ++ [r]) (by rw [List.append_assoc]; exact h) (by rw [List.append_assoc]; exact hl) (fun x hx => hr x (by simp [hx]))
theorem pri_digits {p : Int} (h1 : 1 ≤ p) (h2 : p ≤ 9) : priM (decDigits p.toNat) = (p, 0) := by
  rcases (show p = 1 ∨ p = 2 ∨ p = 3 ∨ p = 4 ∨ p = 5 ∨ p = 6 ∨ p = 7 ∨ p = 8 ∨ p = 9 by omega) with rfl | rfl | rfl | rfl | rfl | rfl | rfl | rfl | rfl <;> decide +kernel
theorem few_join {l : List Str} (h : S3.checkM l = 0) (h8 : l.length ≤ 8) : fewM (S3.joinM l) = (l, 0) := by
  unfold fewM
  rw [S3.list_join l h]
  rw [if_neg (by simp), if_neg (by simp; omega)]
theorem entry_rowQ {x : ReqD} (h : reqM x = 0) (i : Int) : entryM (colsM i (rowQ x)) = (x, 0, 0) := by
  obtain ⟨h1, h2, h3, h4, h5, h6⟩ := reqM_all h
  obtain ⟨h7, h8⟩ := check_tail h6
  have e1 := pri_digits h3 h4
  have e2 := few_join h7 h5
  have e3 : insteadM (S3.joinM x.l) x.c = (x.l, 0) := by
    unfold insteadM
    rw [e2, if_neg (by simp), if_neg h8]
  obtain ⟨s, c, p, l⟩ := x
  dsimp only at h1 h2 e1 e3
  unfold entryM rowQ
  simp [colsM, efold, setF, zeroR, h1, h2, e1, e3]
theorem recM_rowQ {x : ReqD} (h : reqM x = 0) (l : List ReqD) (bad : List ProbD) (i j : Int) (ha : accM l x = 0) : recM (l, bad) (i, colsM j (rowQ x)) = (l ++ [x], bad) := by
  unfold recM
  dsimp only
  rw [entry_rowQ h]
  dsimp only
  rw [if_neg (by simp), if_neg (by simp [ha])]
theorem fold_rowQ : ∀ (l pre : List ReqD) (f : Nat → List Str → RecD), (∀ i r, ∃ a b, f i r = (a, colsM b r)) → (wishes (pre ++ l)).Nodup → (pre ++ l).length ≤ 60 → (∀ r ∈ l, reqM r = 0) → ((l.map rowQ).mapIdx f).foldl recM (pre, []) = (pre ++ l, [])
  | [], pre, f, _, _, _, _ => by simp
  | r :: l, pre, f, hf, h, hl, hr => by
    have h1 := acc_ok (wish_new h) (by simp at hl; omega)
    obtain ⟨a, b, e⟩ := hf 0 (rowQ r)
    rw [List.map_cons, List.mapIdx_cons, List.foldl_cons, e, recM_rowQ (hr r (by simp)) _ _ _ _ h1]
    rw [fold_rowQ l (pre ++ [r]) (fun i => f (i + 1)) (fun i r => hf (i + 1) r) (by rw [List.append_assoc]; exact h) (by rw [List.append_assoc]; exact hl) (fun x hx => hr x (by simp [hx]))]
    rw [List.append_assoc]
    rfl
theorem recs_rowQ {l : List ReqD} (h : (wishes l).Nodup) (hl : l.length ≤ 60) (hr : ∀ r ∈ l, reqM r = 0) : recsM (plainM (l.map rowQ)) = (l, []) := by
  unfold recsM plainM
  exact fold_rowQ l [] _ (fun i r => ⟨_, _, rfl⟩) h hl hr
def Three (names : List Str) : Prop := names.Nodup ∧ ∀ s ∈ names, s = courseS 0 ∨ s = courseS 1 ∨ s = courseS 2
theorem Three.len : ∀ {names : List Str}, Three names → names.length ≤ 3
  | [], _ => by simp
  | [a], _ => by simp
  | [a, b], _ => by simp
  | [a, b, c], _ => by simp
  | a :: b :: c :: d :: r, ⟨h, hm⟩ => by
    exfalso
    rcases hm a (by simp) with rfl | rfl | rfl <;> rcases hm b (by simp) with rfl | rfl | rfl <;> rcases hm c (by simp) with rfl | rfl | rfl <;> rcases hm d (by simp) with rfl | rfl | rfl <;> simp at h
theorem three_of {d s : Int} {n : Nat} {nm : List Str} {cls : List ClassD} (hc : ClassesOk d s n nm cls) : Three (coursesOf cls) := by
  have hgo := coursesOf_go cls [] (by simp)
  refine ⟨hgo.1, fun s hs => ?_⟩
  rcases hgo.2.2 s hs with h | ⟨y, hy, rfl⟩
  · simp at h
  · obtain ⟨i, hi, rfl⟩ := List.mem_iff_getElem.1 hy
    obtain ⟨k, hk, e⟩ := (hc.at_ i _ (List.getElem?_eq_getElem hi)).course
    rw [e]
    rcases (show k = 0 ∨ k = 1 ∨ k = 2 by omega) with rfl | rfl | rfl
    · exact .inl rfl
    · exact .inr (.inl rfl)
    · exact .inr (.inr rfl)
theorem made_one {names : List Str} (hn : Three names) {s i : Nat} {x : ReqD} (h : OneQ names s i x) (h1 : 1 ≤ s) (h5 : s ≤ 5) : reqM x = 0 ∧ (∀ y ∈ rowQ x, y.length ≤ 20) ∧ x.l.length ≤ 1 := by
  have hs : S3.validC x.s = true ∧ x.s.length = 2 := by
    rw [h.s]
    rcases (show s = 1 ∨ s = 2 ∨ s = 3 ∨ s = 4 ∨ s = 5 by omega) with rfl | rfl | rfl | rfl | rfl <;> decide +kernel
  have hc := hn.2 x.c (List.mem_of_getElem? h.c)
  have hcv : S3.validC x.c = true ∧ x.c.length ≤ 3 := by rcases hc with e | e | e <;> rw [e] <;> decide +kernel
  have hck : S3.checkM (x.c :: x.l) = 0 ∧ x.l.length ≤ 1 ∧ (S3.joinM x.l).length ≤ 20 := by
    rcases h.l with e | ⟨k, t, hk, ht, e⟩
    · rw [e]
      rcases hc with e | e | e <;> rw [e] <;> decide +kernel
    · rw [e]
      have htc := hn.2 t (List.mem_of_getElem? ht)
      have hne : x.c ≠ t := by
        intro e
        obtain ⟨q1, q2⟩ := List.getElem?_eq_some_iff.1 h.c
        obtain ⟨q3, q4⟩ := List.getElem?_eq_some_iff.1 ht
        rcases Nat.lt_or_gt_of_ne hk with hlt | hlt
        · exact List.pairwise_iff_getElem.1 hn.1 k i q3 q1 hlt (by rw [q2, q4, e])
        · exact List.pairwise_iff_getElem.1 hn.1 i k q1 q3 hlt (by rw [q2, q4, e])
      rcases hc with e1 | e1 | e1 <;> rcases htc with e2 | e2 | e2 <;> rw [e1, e2] at hne <;> rw [e1, e2] <;> first | decide +kernel | exact absurd rfl hne
  have hp : (decDigits x.p.toNat).length = 1 := by
    have h1 := h.p.1
    have h2 := h.p.2
    generalize x.p = p at h1 h2
    rcases (show p = 1 ∨ p = 2 ∨ p = 3 ∨ p = 4 ∨ p = 5 ∨ p = 6 ∨ p = 7 ∨ p = 8 ∨ p = 9 by omega) with rfl | rfl | rfl | rfl | rfl | rfl | rfl | rfl | rfl <;> decide +kernel
  refine ⟨reqM_of hs.1 hcv.1 h.p.1 h.p.2 (by omega) hck.1, fun y hy => ?_, hck.2.1⟩
  simp only [rowQ, List.mem_cons, List.not_mem_nil, or_false] at hy
  rcases hy with rfl | rfl | rfl | rfl <;> omega
theorem reqs_back {names : List Str} (hn : Three names) {ls : List ReqD} (h : MadeQ names 0 0 ls) :
    validQ ls = 0 ∧ recsM (plainM (ls.map rowQ)) = (ls, []) ∧ (∀ r ∈ ls.map rowQ, r.length = 4 ∧ ∀ x ∈ r, x.length ≤ 20) ∧ ls.length ≤ 15 ∧ ∀ r ∈ ls, r.s.length ≤ 20 ∧ r.l.length ≤ 1 := by
  have h3 := hn.len
  have hl := h.len
  have hl : ls.length ≤ 15 := by
    have : (5 - 0) * names.length ≤ 5 * 3 := Nat.mul_le_mul (Nat.le_refl _) h3
    omega
  have hm : ∀ r ∈ ls, reqM r = 0 ∧ (∀ y ∈ rowQ r, y.length ≤ 20) ∧ r.l.length ≤ 1 := fun r hr => by
    obtain ⟨s', i', k1, k2, k3, k4⟩ := h.all r hr
    exact made_one hn k1 k2 k3
  refine ⟨?_, recs_rowQ h.nd (by omega) (fun r hr => (hm r hr).1), fun r hr => ?_, hl, fun r hr => ⟨(hm r hr).2.1 r.s (by simp [rowQ]), (hm r hr).2.2⟩⟩
  · unfold validQ
    rw [if_neg (by omega)]
    exact goQ_made ls [] h.nd (by simp; omega) (fun r hr => (hm r hr).1)
  · obtain ⟨x, hx, rfl⟩ := List.mem_map.1 hr
    exact ⟨rfl, (hm x hx).2.1⟩
theorem insP_len {α : Type} (key : α → Int) (x : α) : ∀ l : List α, (insP key x l).length = l.length + 1
  | [] => rfl
  | y :: l => by
    unfold insP
    split <;> simp [insP_len key x l]
theorem sortP_len {α : Type} (key : α → Int) (l : List α) : (sortP key l).length = l.length := by
  unfold sortP
  have : ∀ (l a : List α), (l.foldl (fun a x => insP key x a) a).length = a.length + l.length := by
    intro l
    induction l with
    | nil => simp
    | cons x r ih => intro a; rw [List.foldl_cons, ih, insP_len]; simp; omega
  simpa using this l []
theorem wantM_len (l : List ReqD) (s : Str) : (wantM l s).length = (wantF l s).length := sortP_len _ _
theorem studM_len (l : List ReqD) : (studM l).length ≤ l.length := by rw [(studM_perm l).length_eq]; exact studs_len l
end Go.Proofs.YtlgmanbilaminaaGreatDoor.S12
namespace Go.Proofs.YtlgmanbilaminaaGreatDoor.S12
open Go Go.Proofs Go.RowKit Go.Lib Go.Proofs.YtlgmanbilaminaaGreatDoor
def FieldOut (i : Nat) (x : Str) (r : ReqD) (R : Nat) (w : World) (e : Ending) (w' : World) : Prop :=
  e = .returned (.int .i64 (setF i x r).2) ∧ (∃ q : ReqA, Box4 w' R (.string (ba (setF i x r).1.s)) (.string (ba (setF i x r).1.c)) (.int .i64 (setF i x r).1.p) (.slice q.1 (setF i x r).1.l.length q.2) ∧ ReqIn w' (fun k => R < k ∧ k < w'.heap.size) (setF i x r).1 q) ∧ w.grownBy w' (some R)
def EntryOut (o : ReqD × Int × Int) (w : World) (e : Ending) (w' : World) : Prop :=
  (∃ q, e = .returned (.tuple #[reqV o.1 q, .int .i64 o.2.1, .int .i64 o.2.2]) ∧ ReqIn w' (fun k => w.heap.size ≤ k ∧ k < w'.heap.size) o.1 q) ∧ Below w.heap.size w w'
theorem load4 {w : World} {k : Nat} {v0 v1 v2 v3 : Value} (h : w.cell? ⟨k, 0, none⟩ = some v0 ∧ w.cell? ⟨k, 1, none⟩ = some v1 ∧ w.cell? ⟨k, 2, none⟩ = some v2 ∧ w.cell? ⟨k, 3, none⟩ = some v3) : (loadVar 61 ⟨k, 0, none⟩).run Tryz.prog w = .ok (.agg #[v0, v1, v2, v3]) w := by
  obtain ⟨h0, h1, h2, h3⟩ := h
  simp [loadVar, go_sem, h0, h1, h2, h3]
theorem Box4.put0 {w : World} {B : Nat} {v0 v1 v2 v3 : Value} (h : Box4 w B v0 v1 v2 v3) (u : Value) : Box4 (w.setCell ⟨B, 0, none⟩ u) B u v1 v2 v3 := ⟨by rw [heap_setCell_same w B 0 _ _ u h.h]; rfl⟩
theorem Box4.put1 {w : World} {B : Nat} {v0 v1 v2 v3 : Value} (h : Box4 w B v0 v1 v2 v3) (u : Value) : Box4 (w.setCell ⟨B, 1, none⟩ u) B v0 u v2 v3 := ⟨by rw [heap_setCell_same w B 1 _ _ u h.h]; rfl⟩
theorem Box4.put2 {w : World} {B : Nat} {v0 v1 v2 v3 : Value} (h : Box4 w B v0 v1 v2 v3) (u : Value) : Box4 (w.setCell ⟨B, 2, none⟩ u) B v0 v1 u v3 := ⟨by rw [heap_setCell_same w B 2 _ _ u h.h]; rfl⟩
theorem Box4.put3 {w : World} {B : Nat} {v0 v1 v2 v3 : Value} (h : Box4 w B v0 v1 v2 v3) (u : Value) : Box4 (w.setCell ⟨B, 3, none⟩ u) B v0 v1 v2 u := ⟨by rw [heap_setCell_same w B 3 _ _ u h.h]; rfl⟩
def set4 (w : World) (B : Nat) (u0 u1 u2 u3 : Value) : World := (((w.setCell ⟨B, 0, none⟩ u0).setCell ⟨B, 1, none⟩ u1).setCell ⟨B, 2, none⟩ u2).setCell ⟨B, 3, none⟩ u3
theorem Box4.set {w : World} {B : Nat} {v0 v1 v2 v3 : Value} (h : Box4 w B v0 v1 v2 v3) (u0 u1 u2 u3 : Value) : Box4 (set4 w B u0 u1 u2 u3) B u0 u1 u2 u3 := (((h.put0 u0).put1 u1).put2 u2).put3 u3
theorem set4_grown (w : World) (B : Nat) (u0 u1 u2 u3 : Value) : w.grownBy (set4 w B u0 u1 u2 u3) (some B) := by
  have g : ∀ (w : World) (o : Nat) (v : Value), w.grownBy (w.setCell ⟨B, o, none⟩ v) (some B) := fun w o v => ⟨by simp [World.setCell], by simp [World.setCell], by simp [World.setCell], by simp [World.setCell], fun k _ hk => Below.heap_setCell w ⟨B, o, none⟩ v k (fun e => hk (by rw [show k = B from e]))⟩
  exact (((g w 0 u0).andThen (g _ 1 u1) (fun j hj => .inr hj)).andThen (g _ 2 u2) (fun j hj => .inr hj)).andThen (g _ 3 u3) (fun j hj => .inr hj)
theorem entry_end {w W : World} {a : Act} {r : ReqD} {q : ReqA} {c e : Int} {o : ReqD × Int × Int} (hp : a.tmps.getD 6 undef = .pointer (some ⟨w.heap.size, 0, none⟩)) (hc : a.tmps.getD 7 undef = .int .i64 c) (he : a.tmps.getD 8 undef = .int .i64 e) (hd : a.defers = [])
    (hx : Box4 W w.heap.size (.string (ba r.s)) (.string (ba r.c)) (.int .i64 r.p) (.slice q.1 r.l.length q.2)) (hr : ReqIn W (fun k => w.heap.size < k ∧ k < W.heap.size) r q) (hb : Below w.heap.size w W) (ho : o = (r, c, e)) :
    bodyPost Tryz.prog Tryz.f63 (EntryOut o w) Exit.ret a W := by
  subst ho
  refine bodyPost_ret (v := .tuple #[reqV r q, .int .i64 c, .int .i64 e]) (results_ctt rfl _ _ _ ⟨w.heap.size, 0, none⟩ _ _ _ hp hc he ?_) hd ⟨⟨q, rfl, hr.mono (fun k hk => ⟨Nat.le_of_lt hk.1, hk.2⟩)⟩, hb⟩
  unfold reqV
  exact load4 hx.cells
theorem four_put {w W : World} {r : ReqD} {q : ReqA} (hx : Box4 W w.heap.size (.string (ba r.s)) (.string (ba r.c)) (.int .i64 r.p) (.slice q.1 r.l.length q.2)) (hr : ReqIn W (fun k => w.heap.size < k ∧ k < W.heap.size) r q) (hb : Below w.heap.size w W) {W5 : World}
    (h5 : W5 = (((W.setCell ⟨w.heap.size, 0, none⟩ (.string (ba r.s))).setCell ⟨w.heap.size, 1, none⟩ (.string (ba r.c))).setCell ⟨w.heap.size, 2, none⟩ (.int .i64 r.p)).setCell ⟨w.heap.size, 3, none⟩ (.slice q.1 r.l.length q.2)) :
    Box4 W5 w.heap.size (.string (ba r.s)) (.string (ba r.c)) (.int .i64 r.p) (.slice q.1 r.l.length q.2) ∧ ReqIn W5 (fun k => w.heap.size < k ∧ k < W5.heap.size) r q ∧ Below w.heap.size w W5 := by
  have hx5 := Box4.set hx (.string (ba r.s)) (.string (ba r.c)) (.int .i64 r.p) (.slice q.1 r.l.length q.2)
  have hg := set4_grown W w.heap.size (.string (ba r.s)) (.string (ba r.c)) (.int .i64 r.p) (.slice q.1 r.l.length q.2)
  unfold set4 at hx5 hg
  rw [← h5] at hx5 hg
  have hs := hg.size
  have hl := hx.lt
  exact ⟨hx5, (hr.kept (fun k hk => hg.block k hk.2 (fun e => by injection e; omega))).mono (fun k hk => ⟨hk.1, by omega⟩), hb.grown hg (by omega) (fun k e => by injection e; omega)⟩
theorem ReqIn.past {W w2 : World} {R j : Nat} {v : Value} {r : ReqD} {q : ReqA} (h : ReqIn W (fun k => R < k ∧ k < W.heap.size) r q) (hb : Below W.heap.size W w2) : ReqIn (w2.setCell ⟨R, j, none⟩ v) (fun k => R < k ∧ k < (w2.setCell ⟨R, j, none⟩ v).heap.size) r q := by
  have hg := put_grown hb R j v
  have hs := hg.size
  exact (h.kept (fun k hk => hg.block k hk.2 (fun e => by injection e; omega))).mono (fun k hk => ⟨hk.1, by omega⟩)
end Go.Proofs.YtlgmanbilaminaaGreatDoor.S12
