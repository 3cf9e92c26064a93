/-
  What stands while requests are made (Dice.Requests). Conditions: as the lemmas state. Requests that are different wishes: the function that Distinct of package .. Conditions: as stated.
-/
import Derived.Test.YtlgmanbilaminaaGreatDoorMN09
import Derived.Maps.Ext
set_option linter.unusedVariables false
namespace Go.Proofs.YtlgmanbilaminaaGreatDoor.S12
open Go Go.Proofs Go.RowKit Go.Lib Go.Proofs.YtlgmanbilaminaaGreatDoor Go.Proofs.YtlgmanbilaminaaGreatDoor.S10 Go.Proofs.YtlgmanbilaminaaGreatDoor.S11
def codeST (s : Nat) : Str := [115, UInt8.ofNat (48 + s)]
theorem codeST_inj {s t : Nat} (hs : s ≤ 5) (ht : t ≤ 5) (h : codeST s = codeST t) : s = t := by
  unfold codeST at h
  injection h with _ h
  injection h with h _
  have := congrArg UInt8.toNat h
  simp at this
  omega
structure OneQ (names : List Str) (s i : Nat) (x : ReqD) : Prop where
  s : x.s = codeST s
  c : names[i]? = some x.c
  p : 1 ≤ x.p ∧ x.p ≤ 9
  l : x.l = [] ∨ ∃ k t, k ≠ i ∧ names[k]? = some t ∧ x.l = [t]
structure MadeQ (names : List Str) (s i : Nat) (ls : List ReqD) : Prop where
  all : ∀ x ∈ ls, ∃ s' i', OneQ names s' i' x ∧ 1 ≤ s' ∧ s' ≤ 5 ∧ (s < s' ∨ s' = s ∧ i' < i)
  nd : (wishes ls).Nodup
  len : ls.length ≤ (5 - s) * names.length + i
theorem MadeQ.start (names : List Str) (s : Nat) : MadeQ names s 0 [] := ⟨fun x hx => by simp at hx, List.nodup_nil, Nat.zero_le _⟩
theorem MadeQ.skip {names : List Str} {s i : Nat} {ls : List ReqD} (h : MadeQ names s i ls) : MadeQ names s (i + 1) ls :=
  ⟨fun x hx => by obtain ⟨s', i', h1, h2, h3, h4⟩ := h.all x hx; exact ⟨s', i', h1, h2, h3, by omega⟩, h.nd, by have := h.len; omega⟩
theorem MadeQ.next {names : List Str} {s : Nat} {ls : List ReqD} (h : MadeQ names s names.length ls) (h1 : 1 ≤ s) (h5 : s ≤ 5) : MadeQ names (s - 1) 0 ls :=
  ⟨fun x hx => by obtain ⟨s', i', k1, k2, k3, k4⟩ := h.all x hx; exact ⟨s', i', k1, k2, k3, by omega⟩, h.nd, by
    have := h.len
    rw [show 5 - (s - 1) = (5 - s) + 1 by omega, Nat.add_mul, Nat.one_mul]
    omega⟩
theorem MadeQ.app {names : List Str} {s i : Nat} {ls : List ReqD} {x : ReqD} (h : MadeQ names s i ls) (hn : names.Nodup) (hx : OneQ names s i x) (h1 : 1 ≤ s) (h5 : s ≤ 5) : MadeQ names s (i + 1) (ls ++ [x]) := by
  refine ⟨fun y hy => ?_, ?_, by have := h.len; simp; omega⟩
  · rcases List.mem_append.1 hy with hy | hy
    · obtain ⟨s', i', k1, k2, k3, k4⟩ := h.all y hy
      exact ⟨s', i', k1, k2, k3, by omega⟩
    · rw [List.mem_singleton] at hy
      subst hy
      exact ⟨s, i, hx, h1, h5, by omega⟩
  · rw [wishes_snoc, List.nodup_append]
    refine ⟨h.nd, by simp, fun a ha b hb => ?_⟩
    rw [List.mem_singleton] at hb
    subst hb
    rintro rfl
    unfold wishes at ha
    obtain ⟨y, hy, e⟩ := List.mem_map.1 ha
    obtain ⟨s', i', k1, k2, k3, k4⟩ := h.all y hy
    injection e with e1 e2
    have e3 : s' = s := codeST_inj k3 h5 (by rw [← k1.s, ← hx.s]; exact e1)
    have e4 : i' < i := by omega
    have g1 := k1.c
    rw [e2] at g1
    have g2 := hx.c
    obtain ⟨q1, q2⟩ := List.getElem?_eq_some_iff.1 g1
    obtain ⟨q3, q4⟩ := List.getElem?_eq_some_iff.1 g2
    have hw := List.pairwise_iff_getElem.1 hn i' i q1 q3 e4
    exact hw (q2.trans q4.symm)
abbrev ReqP2 := ReqD × ReqA
theorem row_blocks {w w' : World} {B e z n : Nat} {v : Value} {xs : List Value} (h : w.ownsRow B e z v n xs) (hk : ∀ k, v.ownBlock = some k → w'.heap[k]? = w.heap[k]?) : w'.ownsRow B e z v n xs := by
  refine ⟨h.1, ?_⟩
  rcases h.2 with h2 | ⟨g, cap, cur, rfl, hB, hg, r⟩
  · exact .inl h2
  · exact .inr ⟨g, cap, cur, rfl, hB, (hk g rfl).trans hg, r⟩
structure KR (w0 : World) (g c : Nat) (A : Option Addr) (L : List Int) (names : List Str) (nv : Value) (C : Nat) (ls : List ReqD) (v : Value) (w : World) : Prop where
  e : ∃ k, DE w0 g c A L k w
  nm : S3.StrRow w w0.heap.size nv names
  row : ∃ Lr : List ReqP2, Lr.map (·.1) = ls ∧ w.ownsRow w0.heap.size 61 4 v Lr.length (reqVals Lr) ∧ ∀ p ∈ Lr, ReqIn w (fun k => w0.heap.size ≤ k ∧ k < C ∧ some k ≠ v.ownBlock) p.1 p.2
  g0 : g < w0.heap.size
  c0 : w0.heap.size ≤ C
  c1 : C ≤ w.heap.size
  cn : ∀ k, nv.ownBlock = some k → k < C
  cv : ∀ k, v.ownBlock = some k → k < C
section
variable {w0 w w' : World} {g c : Nat} {A : Option Addr} {L : List Int} {names : List Str} {nv : Value} {C : Nat} {ls : List ReqD} {v v' : Value}
theorem KR.dice (h : KR w0 g c A L names nv C ls v w) : ∃ k, DiceAt w g A L c k := by
  obtain ⟨k, h0⟩ := h.e
  exact ⟨k, h0.d⟩
theorem KR.size (h : KR w0 g c A L names nv C ls v w) : w0.heap.size ≤ w.heap.size := Nat.le_trans h.c0 h.c1
theorem KR.under (h : KR w0 g c A L names nv C ls v w) (hb : Below C w w') : KR w0 g c A L names nv C ls v w' := by
  obtain ⟨k, h0⟩ := h.e
  have hg := h.g0
  have h1 := h.c0
  have h2 := h.c1
  have h3 := hb.size
  obtain ⟨Lr, hL, ho, hr⟩ := h.row
  refine ⟨⟨k, h0.below (hb.mono h1) hg⟩, ?_, ⟨Lr, hL, ?_, fun q hq => (hr q hq).kept (fun k hk => hb.block k hk.2.1)⟩, hg, h1, by omega, h.cn, h.cv⟩
  · exact row_blocks h.nm (fun k hk => hb.block k (h.cn k hk))
  · exact row_blocks ho (fun k hk => hb.block k (h.cv k hk))
theorem KR.next (h : KR w0 g c A L names nv C ls v w) (hb : Below w.heap.size w w') : KR w0 g c A L names nv C ls v w' := h.under (hb.mono h.c1)
theorem KR.alloc (h : KR w0 g c A L names nv C ls v w) (o : Obj) : KR w0 g c A L names nv C ls v (w.alloc o) := h.next ((Below.refl _ w).alloc (Nat.le_refl _) o)
theorem KR.roll {k' : Nat} (h : KR w0 g c A L names nv C ls v w) (hd : DiceAt w' g A L c k') (hr : Rolled g w w') : KR w0 g c A L names nv C ls v w' := by
  obtain ⟨k, h0⟩ := h.e
  have hg := h.g0
  have h1 := h.c0
  have h2 := h.c1
  have hs := hr.size
  obtain ⟨Lr, hL, ho, hi⟩ := h.row
  refine ⟨⟨k', h0.next hd hr⟩, ?_, ⟨Lr, hL, ?_, fun q hq => (hi q hq).kept (fun k hk => hr.block k (by omega))⟩, hg, h1, by omega, h.cn, h.cv⟩
  · exact hr.row h.nm (fun e => by have := World.ownsRow.lt h.nm g e; omega)
  · exact hr.row ho (fun e => by have := World.ownsRow.lt ho g e; omega)
theorem KR.lift (h : KR w0 g c A L names nv C ls v w) : KR w0 g c A L names nv w.heap.size ls v w := by
  obtain ⟨Lr, hL, ho, hi⟩ := h.row
  have := h.c1
  exact ⟨h.e, h.nm, ⟨Lr, hL, ho, fun q hq => (hi q hq).mono (fun k hk => ⟨hk.1, by omega, hk.2.2⟩)⟩, h.g0, h.size, Nat.le_refl _, fun k hk => by have := h.cn k hk; omega, fun k hk => by have := h.cv k hk; omega⟩
theorem KR.app {r : ReqD} {q : ReqA} (h : KR w0 g c A L names nv C ls v w) (hr' : ReqIn w (fun k => C ≤ k ∧ k < w.heap.size) r q)
    {Lr : List ReqP2} (hL : Lr.map (·.1) = ls) (ho : w.ownsRow w0.heap.size 61 4 v Lr.length (reqVals Lr)) (hr : ∀ p ∈ Lr, ReqIn w (fun k => w0.heap.size ≤ k ∧ k < C ∧ some k ≠ v.ownBlock) p.1 p.2)
    (hown : w'.ownsRow w0.heap.size 61 4 v' (Lr.length + 1) (reqVals Lr ++ reqVs r q))
    (hg : w.grownBy w' v.ownBlock) (hat : v'.ownBlock = v.ownBlock ∨ ∃ j, v'.ownBlock = some j ∧ w.heap.size ≤ j) : KR w0 g c A L names nv w'.heap.size (ls ++ [r]) v' w' := by
  obtain ⟨j, h0⟩ := h.e
  have hg0 := h.g0
  have hs := hg.size
  have h1 := h.c0
  have h2 := h.c1
  have hb : Below w0.heap.size w w' := (Below.refl _ w).grown hg h0.p.size (fun k hk => (World.ownsRow.lt ho k hk).1)
  have hne : ∀ k, k < w.heap.size → some k ≠ v.ownBlock → some k ≠ v'.ownBlock := by
    intro k hk hne
    rcases hat with e | ⟨j, e, hj⟩
    · rw [e]; exact hne
    · rw [e]; intro e0; injection e0 with e0; omega
  refine ⟨⟨j, h0.below hb hg0⟩, h.nm.kept hg (kinds_ne h.nm ho (by decide)), ⟨Lr ++ [(r, q)], by rw [List.map_append, hL]; rfl, ?_, fun p hp' => ?_⟩, hg0, by omega, Nat.le_refl _, fun k hk => by have := h.cn k hk; omega, fun k hk => (World.ownsRow.lt hown k hk).2⟩
  · rw [reqVals_app, List.length_append, List.length_singleton]
    simpa [reqVals] using hown
  · rcases List.mem_append.1 hp' with hp' | hp'
    · exact ((hr p hp').kept (fun k hk => hg.block k (by omega) hk.2.2)).mono (fun k hk => ⟨hk.1, by omega, hne k (by omega) hk.2.2⟩)
    · rw [List.mem_singleton] at hp'
      subst hp'
      have k1 : ∀ k, C ≤ k → some k ≠ v.ownBlock := fun k hk e => by have := h.cv k e.symm; omega
      exact (hr'.kept (fun k hk => hg.block k hk.2 (k1 k hk.1))).mono (fun k hk => ⟨by omega, by omega, hne k hk.2 (k1 k hk.1)⟩)
end
theorem four_stored {W : World} {R : Nat} {z0 z1 z2 z3 : Value} (h : Box4 W R z0 z1 z2 z3) (u0 u1 u2 u3 : Value) : Box4 ((((W.setCell ⟨R, 0, none⟩ u0).setCell ⟨R, 1, none⟩ u1).setCell ⟨R, 2, none⟩ u2).setCell ⟨R, 3, none⟩ u3) R u0 u1 u2 u3 := by
  have h0 := heap_setCell_same W R 0 #[z0, z1, z2, z3] 61 u0 h.h
  have h1 := heap_setCell_same _ R 1 #[u0, z1, z2, z3] 61 u1 h0
  have h2 := heap_setCell_same _ R 2 #[u0, u1, z2, z3] 61 u2 h1
  have h3 := heap_setCell_same _ R 3 #[u0, u1, u2, z3] 61 u3 h2
  exact ⟨h3⟩
theorem four_below (W : World) (R C : Nat) (hR : C ≤ R) (u0 u1 u2 u3 : Value) : Below C W ((((W.setCell ⟨R, 0, none⟩ u0).setCell ⟨R, 1, none⟩ u1).setCell ⟨R, 2, none⟩ u2).setCell ⟨R, 3, none⟩ u3) :=
  ((((Below.refl _ W).setCell (p := ⟨R, 0, none⟩) hR u0).setCell (p := ⟨R, 1, none⟩) hR u1).setCell (p := ⟨R, 2, none⟩) hR u2).setCell (p := ⟨R, 3, none⟩) hR u3
structure RQ (w0 : World) (g c : Nat) (A : Option Addr) (L : List Int) (names : List Str) (nv : Value) (C : Nat) (ls : List ReqD) (v : Value) (s : Nat) (BB BD : Option Nat) (w : World) : Prop where
  k : KR w0 g c A L names nv C ls v w
  ob : ∀ k, BB = some k → C ≤ k ∧ k < w.heap.size ∧ w.heap[k]? = some (.cells #[.int .u8 (48 + (s : Int))] 5 (0, 0))
  od : ∀ k, BD = some k → C ≤ k ∧ ∃ u0 u1 u2 u3, Box4 w k u0 u1 u2 u3
section
variable {w0 w w' : World} {g c : Nat} {A : Option Addr} {L : List Int} {names : List Str} {nv : Value} {C : Nat} {ls : List ReqD} {v v' : Value} {s : Nat} {BB BD : Option Nat}
theorem RQ.first (h : KR w0 g c A L names nv C ls v w) : RQ w0 g c A L names nv C ls v s none none w := ⟨h, fun k e => by (cases e), fun k e => by (cases e)⟩
theorem RQ.next (h : RQ w0 g c A L names nv C ls v s BB BD w) (hb : Below w.heap.size w w') : RQ w0 g c A L names nv C ls v s BB BD w' :=
  ⟨h.k.next hb, fun k e => by obtain ⟨h1, h2, h3⟩ := h.ob k e; exact ⟨h1, Nat.lt_of_lt_of_le h2 hb.size, (hb.block k h2).trans h3⟩, fun k e => by obtain ⟨h1, u0, u1, u2, u3, h2⟩ := h.od k e; exact ⟨h1, u0, u1, u2, u3, h2.next hb⟩⟩
theorem RQ.roll {k' : Nat} (h : RQ w0 g c A L names nv C ls v s BB BD w) (hd : DiceAt w' g A L c k') (hr : Rolled g w w') : RQ w0 g c A L names nv C ls v s BB BD w' := by
  have hg := h.k.g0
  have hc := h.k.c0
  have hs := hr.size
  exact ⟨h.k.roll hd hr, fun k e => by obtain ⟨h1, h2, h3⟩ := h.ob k e; exact ⟨h1, by omega, (hr.block k (by omega)).trans h3⟩, fun k e => by obtain ⟨h1, u0, u1, u2, u3, h2⟩ := h.od k e; exact ⟨h1, u0, u1, u2, u3, h2.kept (hr.block k (by omega))⟩⟩
theorem RQ.newB (h : RQ w0 g c A L names nv C ls v s none BD w) : ∃ k, k = w.heap.size ∧ RQ w0 g c A L names nv C ls v s (some k) BD (w.alloc (.cells #[.int .u8 (48 + (s : Int))] 5)) := by
  have k := h.next ((Below.refl _ w).alloc (Nat.le_refl _) (.cells #[.int .u8 (48 + (s : Int))] 5))
  refine ⟨_, rfl, k.k, fun i e => ?_, k.od⟩
  injection e with e
  subst e
  exact ⟨h.k.c1, by simp, heap_alloc_new w _⟩
theorem RQ.newD (h : RQ w0 g c A L names nv C ls v s BB none w) : ∃ k, k = w.heap.size ∧ RQ w0 g c A L names nv C ls v s BB (some k) (w.alloc (.cells #[.string ⟨#[]⟩, .string ⟨#[]⟩, .int .i64 0, .slice none 0 0] 61)) := by
  have k := h.next ((Below.refl _ w).alloc (Nat.le_refl _) (.cells #[.string ⟨#[]⟩, .string ⟨#[]⟩, .int .i64 0, .slice none 0 0] 61))
  refine ⟨_, rfl, k.k, k.ob, fun i e => ?_⟩
  injection e with e
  subst e
  exact ⟨h.k.c1, _, _, _, _, Box4.new w _ _ _ _⟩
theorem RQ.dropB (h : RQ w0 g c A L names nv C ls v s BB BD w) : RQ w0 g c A L names nv C ls v s none BD w := ⟨h.k, fun k e => by (cases e), h.od⟩
theorem RQ.dropD (h : RQ w0 g c A L names nv C ls v s BB BD w) : RQ w0 g c A L names nv C ls v s BB none w := ⟨h.k, h.ob, fun k e => by (cases e)⟩
theorem RQ.keep {b xb : Nat} (h : RQ w0 g c A L names nv C ls v s (some b) (some xb) w) (u0 u1 u2 u3 : Value) :
    RQ w0 g c A L names nv C ls v s (some b) (some xb) ((((w.setCell ⟨xb, 0, none⟩ u0).setCell ⟨xb, 1, none⟩ u1).setCell ⟨xb, 2, none⟩ u2).setCell ⟨xb, 3, none⟩ u3) := by
  obtain ⟨h1, z0, z1, z2, z3, h2⟩ := h.od xb rfl
  obtain ⟨k1, k2, k3⟩ := h.ob b rfl
  have hne : b ≠ xb := by
    rintro rfl
    have := k3.symm.trans h2.h
    simp at this
  refine ⟨h.k.under (four_below w xb C h1 _ _ _ _), fun k e => ?_, fun k e => ?_⟩
  · injection e with e
    subst e
    refine ⟨k1, by simp [World.setCell]; exact k2, ?_⟩
    rw [Below.heap_setCell _ ⟨xb, 3, none⟩ _ b hne, Below.heap_setCell _ ⟨xb, 2, none⟩ _ b hne, Below.heap_setCell _ ⟨xb, 1, none⟩ _ b hne, Below.heap_setCell _ ⟨xb, 0, none⟩ _ b hne]
    exact k3
  · injection e with e
    subst e
    exact ⟨h1, _, _, _, _, four_stored h2 _ _ _ _⟩
theorem RQ.conv {k : Nat} (hs : s ≤ 5) (h : RQ w0 g c A L names nv C ls v s (some k) BD w) : (Go.convert 59 9 (.slice (some ⟨k, 0, none⟩) 1 1)).run Tryz.prog w = .ok (.string ⟨#[UInt8.ofNat (48 + s)]⟩) w := by
  obtain ⟨h1, h2, h3⟩ := h.ob k rfl
  have ho : w.ownsRow k 5 1 (.slice (some ⟨k, 0, none⟩) 1 1) 1 [.int .u8 (48 + (s : Int))] := ⟨rfl, .inr ⟨k, 1, _, rfl, Nat.le_refl _, h3, Nat.le_refl _, by unfold maxLen; omega, rfl, rfl⟩⟩
  have e : [Value.int .u8 (48 + (s : Int))] = byteCells [UInt8.ofNat (48 + s)] := by
    rcases (show s = 0 ∨ s = 1 ∨ s = 2 ∨ s = 3 ∨ s = 4 ∨ s = 5 by omega) with rfl | rfl | rfl | rfl | rfl | rfl <;> rfl
  rw [e] at ho
  exact row_string (P := Tryz.prog) (l := [UInt8.ofNat (48 + s)]) ho 59 5 9 Tryz.underlying59 Tryz.underlying5 Tryz.underlying9
end
structure KX (w0 : World) (g c : Nat) (A : Option Addr) (L : List Int) (names : List Str) (nv : Value) (C : Nat) (ls : List ReqD) (v : Value) (xb : Nat) (r : ReqD) (q : ReqA) (w : World) : Prop where
  k : KR w0 g c A L names nv C ls v w
  x : Box4 w xb (.string (ba r.s)) (.string (ba r.c)) (.int .i64 r.p) (.slice q.1 r.l.length q.2)
  xc : C ≤ xb
  i : ReqIn w (fun k => C ≤ k ∧ k < w.heap.size ∧ k ≠ xb) r q
section
variable {w0 w w' : World} {g c : Nat} {A : Option Addr} {L : List Int} {names : List Str} {nv : Value} {C : Nat} {ls : List ReqD} {v v' : Value} {s k xb : Nat} {r : ReqD} {q : ReqA}
theorem RQ.stored (h : RQ w0 g c A L names nv C ls v s (some k) (some xb) w) (S X : Str) (p : Int) :
    KX w0 g c A L names nv C ls v xb ⟨S, X, p, []⟩ (none, 0) ((((w.setCell ⟨xb, 0, none⟩ (.string (ba S))).setCell ⟨xb, 1, none⟩ (.string (ba X))).setCell ⟨xb, 2, none⟩ (.int .i64 p)).setCell ⟨xb, 3, none⟩ (.slice none 0 0)) := by
  obtain ⟨h1, z0, z1, z2, z3, h2⟩ := h.od xb rfl
  exact ⟨h.k.under (four_below w xb C h1 _ _ _ _), four_stored h2 _ _ _ _, h1, ⟨.inl rfl, Nat.le_refl _, by decide⟩⟩
theorem KX.next (h : KX w0 g c A L names nv C ls v xb r q w) (hb : Below w.heap.size w w') : KX w0 g c A L names nv C ls v xb r q w' :=
  ⟨h.k.next hb, h.x.next hb, h.xc, (h.i.kept (fun k hk => hb.block k hk.2.1)).mono (fun k hk => ⟨hk.1, Nat.lt_of_lt_of_le hk.2.1 hb.size, hk.2.2⟩)⟩
theorem KX.roll {k' : Nat} (h : KX w0 g c A L names nv C ls v xb r q w) (hd : DiceAt w' g A L c k') (hr : Rolled g w w') : KX w0 g c A L names nv C ls v xb r q w' := by
  have hg := h.k.g0
  have hc := h.k.c0
  have hs := hr.size
  have hx := h.xc
  exact ⟨h.k.roll hd hr, h.x.kept (hr.block xb (by omega)), hx, (h.i.kept (fun k hk => hr.block k (by omega))).mono (fun k hk => ⟨hk.1, by omega, hk.2.2⟩)⟩
theorem KX.set (h : KX w0 g c A L names nv C ls v xb r q w) (t : Str) :
    KX w0 g c A L names nv C ls v xb ⟨r.s, r.c, r.p, [t]⟩ (some ⟨w.heap.size, 0, none⟩, 1) ((w.alloc (.cells #[.string (ba t)] 9)).setCell ⟨xb, 3, none⟩ (.slice (some ⟨w.heap.size, 0, none⟩) 1 1)) := by
  have hx := h.x.lt
  have hc := h.xc
  have h1 := h.next ((Below.refl _ w).alloc (Nat.le_refl _) (.cells #[.string (ba t)] 9))
  have hb : Below C (w.alloc (.cells #[.string (ba t)] 9)) ((w.alloc (.cells #[.string (ba t)] 9)).setCell ⟨xb, 3, none⟩ (.slice (some ⟨w.heap.size, 0, none⟩) 1 1)) := (Below.refl _ _).setCell (p := ⟨xb, 3, none⟩) hc _
  refine ⟨h1.k.under hb, ⟨by rw [heap_setCell_same _ xb 3 _ _ _ h1.x.h]; rfl⟩, hc, ⟨.inr ⟨w.heap.size, 0, rfl, ⟨by have := h.k.c1; omega, by simp [World.setCell], by omega⟩, fun j s hj => ?_⟩, Nat.le_refl _, by show (1 : Nat) ≤ _; omega⟩⟩
  match j, hj with
  | 0, hj =>
    obtain rfl : t = s := by simpa using hj
    rw [World.cell?_of_block (Below.heap_setCell _ ⟨xb, 3, none⟩ _ w.heap.size (fun e => by have : w.heap.size = xb := e; omega)), Lib.cell_of_heap (heap_alloc_new w _)]
    rfl
  | j + 1, hj => simp at hj
end
def RequestsP (names : List Str) (g c : Nat) (A : Option Addr) (L : List Int) (w0 : World) (e : Ending) (w' : World) : Prop :=
  ∃ (ls : List ReqD) (v : Value) (k' : Nat), e = .returned v ∧ MadeQ names 0 0 ls ∧ ReqRow w' w0.heap.size (fun k => w0.heap.size ≤ k ∧ k < w'.heap.size) v ls ∧ DE w0 g c A L k' w'
theorem KR.out {w0 w : World} {g c : Nat} {A : Option Addr} {L : List Int} {names : List Str} {nv : Value} {C : Nat} {ls : List ReqD} {v : Value} (h : KR w0 g c A L names nv C ls v w) (hm : MadeQ names 0 0 ls) : RequestsP names g c A L w0 (.returned v) w := by
  obtain ⟨k2, he2⟩ := h.e
  obtain ⟨Lr, hL, ho, hr⟩ := h.row
  have hl0 : Lr.length = ls.length := by rw [← hL, List.length_map]
  have := h.c1
  exact ⟨ls, _, k2, rfl, hm, ⟨Lr, hL, by rw [← hl0]; exact ho, fun p hp => (hr p hp).mono (fun k hk => ⟨hk.1, by omega⟩)⟩, he2⟩
end Go.Proofs.YtlgmanbilaminaaGreatDoor.S12
namespace Go.Proofs.YtlgmanbilaminaaGreatDoor.S12
open Go Go.Proofs Go.RowKit Go.Lib Go.Proofs.YtlgmanbilaminaaGreatDoor
open Go.Maps (Keyed string_keyed)
open Go.WideMaps (keyOf_string_mk)
def aggL : Value → Option (DataW Unit × List MemPlace)
  | .agg ⟨[.string _, .string _, .int .i64 _, .slice _ _ _]⟩ => some (.agg [], [])
  | _ => none
theorem aggL_mk (a b : ByteArray) (p : Int) (A1 : Option Addr) (n1 c1 : Nat) : aggL (.agg #[.string a, .string b, .int .i64 p, .slice A1 n1 c1]) = some (.agg [], []) := rfl
theorem aggL_inv {v : Value} {z : DataW Unit × List MemPlace} (h : aggL v = some z) : ∃ (a b : ByteArray) (p : Int) (A1 : Option Addr) (n1 c1 : Nat), v = .agg #[.string a, .string b, .int .i64 p, .slice A1 n1 c1] := by
  unfold aggL at h
  split at h
  · exact ⟨_, _, _, _, _, _, rfl⟩
  · cases h
theorem laidOutA : laidOutB Tryz.prog = true := by kernel_rfl
theorem rowW : (116 : TypeId) < Tryz.prog.types.size := of_decide_eq_true (by kernel_rfl)
theorem posT : 0 < Tryz.prog.types.size := of_decide_eq_true (by kernel_rfl)
theorem sizeT : ∃ n, Tryz.prog.types.size = n + 1 := by
  have h := posT
  revert h
  generalize Tryz.prog.types.size = k
  intro h
  exact ⟨k - 1, by omega⟩
theorem cellsW : Tryz.prog.cellsOf 116 = 2 := by kernel_rfl
theorem cells9 : Tryz.prog.cellsOf 9 = 1 := by kernel_rfl
theorem typeW : Tryz.prog.keyType 116 = true := by kernel_rfl
theorem wideW : (match Tryz.prog.underlying 116 with | some (.array _ _) | some (.struct _) => true | _ => false) = true := by kernel_rfl
set_option maxRecDepth 100000 in
theorem lawW : Keyed Tryz.prog 116 := Keyed.of_law (deep_law_laid laidOutA (m := 3) (by omega) rowW (by kernel_rfl) wideW)
def litW (p : Str × Str) : Lit := .string (keyBytes [.string p.1, .string p.2])
theorem keyW (s c : ByteArray) (hs : s.size ≤ maxLen) (hc : c.size ≤ maxLen) : keyOf Tryz.prog 116 (.agg #[.string s, .string c]) = some (litW (lst s, lst c)) := by
  have hu := Tryz.underlying116
  have hf : (Value.agg #[.string s, .string c]).formed Tryz.prog 116 = true := by simp [Value.formed, hu, cellsW]
  obtain ⟨n, hn⟩ := sizeT
  have h9 := Tryz.underlying9
  unfold keyOf
  rw [hu]
  simp only [typeW, hf, Bool.and_self, if_true]
  rw [hn]
  simp [Program.keyLits, hu, cellsW, Value.cells, h9, cells9, hs, hc, litW, List.mapM_cons, List.mapM_nil]
theorem keyLitW (p : Str × Str) : WideAt.IsKeyLit (litW p) := by unfold litW; constructor
def Fits (p : Str × Str) : Prop := p.1.length ≤ maxLen ∧ p.2.length ≤ maxLen
theorem litW_inj {p q : Str × Str} (hp : Fits p) (hq : Fits q) (h : litW p = litW q) : p = q := by
  have h1 := keyW (ba p.1) (ba p.2) (by rw [Lib.size_eq]; exact hp.1) (by rw [Lib.size_eq]; exact hp.2)
  have h2 := keyW (ba q.1) (ba q.2) (by rw [Lib.size_eq]; exact hq.1) (by rw [Lib.size_eq]; exact hq.2)
  simp only [lst_ba] at h1 h2
  rw [show (p.1, p.2) = p from rfl] at h1
  rw [show (q.1, q.2) = q from rfl, ← h] at h2
  have := lawW.inj h1 h2
  simp only [Value.agg.injEq, Array.mk.injEq, List.cons.injEq, Value.string.injEq, and_true] at this
  have e1 := congrArg lst this.1
  have e2 := congrArg lst this.2
  rw [lst_ba, lst_ba] at e1 e2
  exact Prod.ext e1 e2
theorem sameKey_litW {a b : Str × Str} (ha : Fits a) (hb : Fits b) : (litW a).sameKey (litW b) = decide (a = b) := by
  by_cases h : a = b
  · subst h
    rw [WideAt.sameKey_self (keyLitW a), decide_eq_true rfl]
  · rw [Maps.sameKey_ne (fun e => h (litW_inj ha hb e)), decide_eq_false h]
def setW (l : List (Str × Str)) : DataW Unit := Maps.setOf (.agg []) (l.map litW)
theorem has_setW (l : List (Str × Str)) (c : Str × Str) (hl : ∀ p ∈ l, Fits p) (hc : Fits c) : Maps.has (setW l) (litW c) = decide (c ∈ l) := by
  unfold setW
  rw [Maps.has_setOf _ _ _ (fun x hx => by obtain ⟨s, _, rfl⟩ := List.mem_map.1 hx; exact keyLitW s)]
  rw [Bool.eq_iff_iff, List.any_eq_true, decide_eq_true_eq]
  constructor
  · rintro ⟨x, hx, hk⟩
    obtain ⟨s, hs, rfl⟩ := List.mem_map.1 hx
    rw [sameKey_litW (hl s hs) hc, decide_eq_true_eq] at hk
    subst hk
    exact hs
  · intro h
    exact ⟨litW c, List.mem_map.2 ⟨c, h, rfl⟩, by rw [sameKey_litW hc hc, decide_eq_true rfl]⟩
theorem setW_snoc (l : List (Str × Str)) (c : Str × Str) : setW (l ++ [c]) = (setW l).put (litW c) (.agg []) := by
  unfold setW
  rw [List.map_append, List.map_singleton, Maps.setOf_snoc]
structure KMap (w : World) (B : Nat) (l : List (Str × Str)) : Prop where
  own : w.ownsMap Tryz.prog 116 aggL B l.length (setW l)
  sz : Maps.size (setW l) = l.length
  fit : ∀ p ∈ l, Fits p
theorem KMap.made (w : World) : KMap (w.alloc (.map #[] 0)) w.heap.size [] := ⟨World.ownsMap_made _ _ _ _, rfl, by simp⟩
theorem KMap.kept {w w' : World} {B : Nat} {l : List (Str × Str)} {row : Option Nat} (h : KMap w B l) (hg : w.grownBy w' row) (hne : some B ≠ row) : KMap w' B l := ⟨h.own.kept hg hne, h.sz, h.fit⟩
theorem KMap.below {w w' : World} {B : Nat} {l : List (Str × Str)} (h : KMap w B l) (hb : Below w.heap.size w w') : KMap w' B l := h.kept (below_grown hb (Nat.le_refl _)) (by simp)
theorem KMap.lt {w : World} {B : Nat} {l : List (Str × Str)} (h : KMap w B l) : B < w.heap.size := h.own.lt
theorem zeroReq (w : World) : (zeroValue 61).run Tryz.prog w = .ok (.agg #[.string ⟨#[]⟩, .string ⟨#[]⟩, .int .i64 0, .slice none 0 0]) w := by kernel_rfl
theorem wpList_lookup_req {P : Program} (w : World) {ops : Array Oper} {rest : List Oper} {o : Oper} {a : Act} {Q : Exit → Act → World → Prop} (hg : o.guard = none) (m x : Operand) (t : TypeId) (hop : o.op = Op.lookup t m x true)
    (k e : TypeId) (K : Keyed P k) (ht : P.underlying t = some (.map k e)) {z : Value} (hz : (zeroValue e).run P w = .ok z w) (hzd : aggL z = some (.agg [], [])) (b n : Nat) (D : DataW Unit)
    (hm : a.eval m = .map (some b)) (hown : w.ownsMap P k aggL b n D) (key : Value) (kl : Lit) (hx : a.eval x = key) (hkey : keyOf P k key = some kl)
    (hK : ∀ (x y : ByteArray) (p : Int) (A1 : Option Addr) (n1 c1 : Nat), wpList P ops Q rest (a.put o.dst (.tuple #[.agg #[.string x, .string y, .int .i64 p, .slice A1 n1 c1], .bool (Maps.has D kl)])) w) :
    wpList P ops Q (o :: rest) a w :=
  wpList_lookup_own_ok w hg m x t hop k e K ht aggL hz (.agg []) [] hzd b n D hm hown key kl hx hkey (fun v ps hv => by
    obtain ⟨x, y, p, A1, n1, c1, rfl⟩ := aggL_inv hv
    exact hK x y p A1 n1 c1)
def addW (l : List (Str × Str)) (c : Str × Str) : List (Str × Str) × Int := if c ∈ l then (l, 11) else if l.length = 400 then (l, 2) else (l ++ [c], 0)
def AddOutK (l : List (Str × Str)) (c : Str × Str) (B : Nat) (w : World) (e : Ending) (w' : World) : Prop := e = .returned (.int .i64 (addW l c).2) ∧ KMap w' B (addW l c).1 ∧ w.grownBy w' (some B)
structure DistIn (w : World) (KB AB MB M : Nat) : Prop where
  k : Box1 w KB 117 (.func (.func 68) #[] #[])
  a : Box1 w AB 133 (.map (some M))
  m : Box1 w MB 3 (.int .i64 400)
theorem DistIn.kept {w w' : World} {KB AB MB M : Nat} (h : DistIn w KB AB MB M) (hk : ∀ b, b = KB ∨ b = AB ∨ b = MB → w'.heap[b]? = w.heap[b]?) : DistIn w' KB AB MB M :=
  ⟨h.k.kept (hk _ (.inl rfl)), h.a.kept (hk _ (.inr (.inl rfl))), h.m.kept (hk _ (.inr (.inr rfl)))⟩
theorem DistIn.next {w w' : World} {KB AB MB M : Nat} (h : DistIn w KB AB MB M) (hb : Below w.heap.size w w') : DistIn w' KB AB MB M := ⟨h.k.next hb, h.a.next hb, h.m.next hb⟩
set_option maxHeartbeats 1000000 in
theorem wishOf_any (s c : ByteArray) (p : Int) (A1 : Option Addr) (n1 c1 : Nat) (w : World) : Calls Tryz.prog 68 #[.agg #[.string s, .string c, .int .i64 p, .slice A1 n1 c1]] w fun e w' => e = .returned (.agg #[.string s, .string c]) ∧ Below w.heap.size w w' := by
  go_enter Tryz.func68, Tryz.ntmps68
  go_wp2
  go_returns
  exact ⟨rfl, by go_grown⟩
set_option maxHeartbeats 4000000 in
set_option maxRecDepth 100000 in
theorem dist_any (KB AB MB M : Nat) (l : List (Str × Str)) (s c : ByteArray) (p : Int) (A1 : Option Addr) (n1 c1 : Nat) (hl : l.length ≤ 400) (hs : s.size ≤ maxLen) (hc : c.size ≤ maxLen) (w : World) (hD : DistIn w KB AB MB M) (h : KMap w M l) :
    Calls Tryz.prog 92 #[.agg #[.string s, .string c, .int .i64 p, .slice A1 n1 c1], .pointer (some ⟨KB, 0, none⟩), .pointer (some ⟨AB, 0, none⟩), .pointer (some ⟨MB, 0, none⟩)] w (AddOutK l (lst s, lst c) M w) := by
  have eg : ∀ args w, (callFunc 68 args).run Tryz.prog w = .ok (.enter 68 args) w := enters_of Tryz.func68 (by kernel_rfl) rfl
  unfold AddOutK addW
  have hkey : keyOf Tryz.prog 116 (.agg #[.string s, .string c]) = some (litW (lst s, lst c)) := keyW s c hs hc
  have hfc : Fits (lst s, lst c) := ⟨by rw [← Lib.size_eq]; exact hs, by rw [← Lib.size_eq]; exact hc⟩
  have hhas := has_setW l (lst s, lst c) h.fit hfc
  have hBl := h.lt
  have hb1 := (Below.refl w.heap.size w).alloc (Nat.le_refl _) (.cells #[.string s, .string c, .int .i64 p, .slice A1 n1 c1] 61)
  have hX := Box4.new w (.string s) (.string c) (.int .i64 p) (.slice A1 n1 c1)
  obtain ⟨w1, hw1⟩ : ∃ w1, w.alloc (.cells #[.string s, .string c, .int .i64 p, .slice A1 n1 c1] 61) = w1 := ⟨_, rfl⟩
  rw [hw1] at hb1 hX
  have hD1 := hD.next hb1
  have hM1 := h.below hb1
  have hkl := hD.k.lt
  have hkc := hD.k.cell
  have hk1 : (w.alloc (.cells #[.string s, .string c, .int .i64 p, .slice A1 n1 c1] 61)).cell? ⟨KB, 0, none⟩ = some (.func (.func 68) #[] #[]) := Lib.cell?_alloc_some _ hkc
  obtain ⟨K, hK⟩ : ∃ K, (lst s, lst c) = K := ⟨_, rfl⟩
  rw [hK] at hkey hhas hfc ⊢
  have H1 := hid hM1
  have HD1 := hid hD1
  have HX := hid hX
  have HB1 := hid hb1
  have HKEY := hid hkey
  have HW1 := hid hw1
  have HFC := hid hfc
  clear hM1 hD1 hX hb1 hkey hw1 h hD hkl hkc hK hfc hs hc
  by_cases hm : K ∈ l
  · rw [if_pos hm]
    rw [decide_eq_true hm] at hhas
    have HHAS := hid hhas
    clear hhas hm
    go_enter Tryz.func92, Tryz.ntmps92
    go_wp2_with fail
    rw [HW1.out]
    refine (wishOf_any s c p A1 n1 c1 w1).mono ?_
    rintro e w2 ⟨rfl, hb2⟩
    have hD2 := HD1.out.next hb2
    have hM2 := H1.out.below hb2
    have hX2 := HX.out.next hb2
    obtain ⟨x0, x1, x2, x3⟩ := hX2.cells
    have a0 := hD2.a.cell
    have m0 := hD2.m.cell
    have al := hD2.a.lt
    have ml := hD2.m.lt
    have xl := hX2.lt
    have HB2 := hid (HB1.out.trans (hb2.mono HB1.out.size))
    have H2 := hid hM2
    clear hb2 hD2 hM2 hX2 hk1
    obtain ⟨W2, hW2⟩ : ∃ W2, W2 = w2 := ⟨_, rfl⟩
    clear hW2
    go_wp2_with (first
      | (at_lookup; refine wpList_lookup_req _ rfl _ _ 133 rfl 116 61 lawW Tryz.underlying133 (zeroReq _) (aggL_mk _ _ _ _ _ _) M l.length (setW l) rfl (H2.out.own.alloc _) _ _ rfl HKEY.out ?_; intro u0 u1 u2 u3 u4 u5; rw [HHAS.out])
      | go_in)
    go_ret
    exact ⟨rfl, H2.out.below (by go_grown), grown_none (below_grown (HB2.out.trans (((Below.refl _ _).alloc HB2.out.size _).trans ((Below.refl _ _).alloc (Nat.le_trans HB2.out.size (by simp)) _))) (Nat.le_refl _))⟩
  · rw [if_neg hm]
    rw [decide_eq_false hm] at hhas
    have HHAS := hid hhas
    have hsz := H1.out.sz
    by_cases h16 : l.length = 400
    · rw [if_pos h16]
      rw [h16] at hsz
      have HSZ := hid hsz
      clear hhas hsz hm
      go_enter Tryz.func92, Tryz.ntmps92
      go_wp2_with fail
      rw [HW1.out]
      refine (wishOf_any s c p A1 n1 c1 w1).mono ?_
      rintro e w2 ⟨rfl, hb2⟩
      have hD2 := HD1.out.next hb2
      have hM2 := H1.out.below hb2
      have hX2 := HX.out.next hb2
      obtain ⟨x0, x1, x2, x3⟩ := hX2.cells
      have a0 := hD2.a.cell
      have m0 := hD2.m.cell
      have al := hD2.a.lt
      have ml := hD2.m.lt
      have xl := hX2.lt
      have HB2 := hid (HB1.out.trans (hb2.mono HB1.out.size))
      have H2 := hid hM2
      clear hb2 hD2 hM2 hX2 hk1
      obtain ⟨W2, hW2⟩ : ∃ W2, W2 = w2 := ⟨_, rfl⟩
      clear hW2
      go_wp2_with (first
        | (at_lookup; refine wpList_lookup_req _ rfl _ _ 133 rfl 116 61 lawW Tryz.underlying133 (zeroReq _) (aggL_mk _ _ _ _ _ _) M l.length (setW l) rfl (H2.out.own.alloc _) _ _ rfl HKEY.out ?_; intro u0 u1 u2 u3 u4 u5; rw [HHAS.out])
        | (at_len; refine wpList_len_own _ rfl _ 133 rfl 116 61 Tryz.underlying133 aggL M l.length (setW l) rfl ((H2.out.own.alloc _).alloc _) ?_; rw [HSZ.out])
        | go_in)
      go_ret
      exact ⟨rfl, H2.out.below (by go_grown), grown_none (below_grown (HB2.out.trans (((Below.refl _ _).alloc HB2.out.size _).trans ((Below.refl _ _).alloc (Nat.le_trans HB2.out.size (by simp)) _))) (Nat.le_refl _))⟩
    · rw [if_neg h16]
      have HSZ := hid hsz
      have h16z : ((l.length : Nat) : Int) ≠ 400 := by omega
      have h16b : (((l.length : Nat) : Int) == 400) = false := by simpa using h16z
      clear hhas hsz hm
      go_enter Tryz.func92, Tryz.ntmps92
      go_wp2_with fail
      rw [HW1.out]
      refine (wishOf_any s c p A1 n1 c1 w1).mono ?_
      rintro e w2 ⟨rfl, hb2⟩
      have hD2 := HD1.out.next hb2
      have hM2 := H1.out.below hb2
      have hX2 := HX.out.next hb2
      obtain ⟨x0, x1, x2, x3⟩ := hX2.cells
      have a0 := hD2.a.cell
      have m0 := hD2.m.cell
      have al := hD2.a.lt
      have ml := hD2.m.lt
      have xl := hX2.lt
      have HB2 := hid (HB1.out.trans (hb2.mono HB1.out.size))
      have H2 := hid hM2
      clear hb2 hD2 hM2 hX2 hk1
      obtain ⟨W2, hW2⟩ : ∃ W2, W2 = w2 := ⟨_, rfl⟩
      clear hW2
      go_wp2_with (first
        | (at_lookup; refine wpList_lookup_req _ rfl _ _ 133 rfl 116 61 lawW Tryz.underlying133 (zeroReq _) (aggL_mk _ _ _ _ _ _) M l.length (setW l) rfl (H2.out.own.alloc _) _ _ rfl HKEY.out ?_; intro u0 u1 u2 u3 u4 u5; rw [HHAS.out])
        | (at_len; refine wpList_len_own _ rfl _ 133 rfl 116 61 Tryz.underlying133 aggL M l.length (setW l) rfl ((H2.out.own.alloc _).alloc _) ?_; rw [HSZ.out])
        | (at_mapUpdate; refine wpList_mapUpdate_own _ rfl _ _ _ 133 rfl 116 61 lawW Tryz.underlying133 aggL M l.length (setW l) rfl ((H2.out.own.alloc _).alloc _) (by unfold maxLen; omega) _ _ _ rfl rfl HKEY.out _ [] (aggL_mk _ _ _ _ _ _) ?_; intro w3 hown3 hgrow3)
        | go_in)
      go_ret
      refine ⟨rfl, ⟨?_, ?_, ?_⟩, ?_⟩
      · rw [setW_snoc, List.length_append, List.length_singleton]
        exact hown3
      · rw [setW_snoc, Maps.size_put (H2.out.own.tidy lawW), HHAS.out, HSZ.out, List.length_append, List.length_singleton]
        rfl
      · intro q hq
        rcases List.mem_append.1 hq with hq | hq
        · exact H2.out.fit q hq
        · rw [List.mem_singleton] at hq; subst hq; exact HFC.out
      · exact (grown_none (below_grown (HB2.out.trans (((Below.refl _ _).alloc HB2.out.size _).trans ((Below.refl _ _).alloc (Nat.le_trans HB2.out.size (by simp)) _))) (Nat.le_refl _))).andThen hgrow3 (fun j hj => .inr hj)
def DistOut (w : World) (e : Ending) (w' : World) : Prop := ∃ KB AB MB M, e = .returned (.func (.func 92) #[] #[.pointer (some ⟨KB, 0, none⟩), .pointer (some ⟨AB, 0, none⟩), .pointer (some ⟨MB, 0, none⟩)]) ∧ DistIn w' KB AB MB M ∧ KMap w' M [] ∧
  w.heap.size ≤ M ∧ KB ≠ M ∧ AB ≠ M ∧ MB ≠ M ∧ Below w.heap.size w w' ∧ w.heap.size ≤ KB ∧ w.heap.size ≤ AB ∧ w.heap.size ≤ MB
set_option maxHeartbeats 1000000 in
theorem distinct_any (w : World) : Calls Tryz.prog 67 #[.int .i64 400, .func (.func 68) #[] #[]] w (DistOut w) := by
  have hmm := @run_makeMap Tryz.prog
  go_enter Tryz.func67, Tryz.ntmps67
  go_wp2
  go_ret
  refine ⟨w.heap.size + 1, w.heap.size + 1 + 1 + 1, w.heap.size, w.heap.size + 1 + 1, rfl, ?_⟩
  have e1 := Box1.new w 3 (.int .i64 400)
  have b1 := (Below.refl w.heap.size w).alloc (Nat.le_refl _) (.cells #[.int .i64 400] 3)
  have s1 : (w.alloc (.cells #[.int .i64 400] 3)).heap.size = w.heap.size + 1 := by simp
  generalize w.alloc (.cells #[.int .i64 400] 3) = w1 at e1 b1 s1 ⊢
  have e2 := Box1.new w1 117 (.func (.func 68) #[] #[])
  have b2 := (Below.refl w1.heap.size w1).alloc (Nat.le_refl _) (.cells #[.func (.func 68) #[] #[]] 117)
  have s2 : (w1.alloc (.cells #[.func (.func 68) #[] #[]] 117)).heap.size = w.heap.size + 1 + 1 := by simp [s1]
  rw [s1] at e2
  generalize w1.alloc (.cells #[.func (.func 68) #[] #[]] 117) = w2 at e2 b2 s2 ⊢
  have e3 := KMap.made w2
  have b3 := (Below.refl w2.heap.size w2).alloc (Nat.le_refl _) (.map #[] 0)
  have s3 : (w2.alloc (.map #[] 0)).heap.size = w.heap.size + 1 + 1 + 1 := by simp [s2]
  rw [s2] at e3
  generalize w2.alloc (.map #[] 0) = w3 at e3 b3 s3 ⊢
  have e4 := Box1.new w3 133 (.map (some (w.heap.size + 1 + 1)))
  have b4 := (Below.refl w3.heap.size w3).alloc (Nat.le_refl _) (.cells #[.map (some (w.heap.size + 1 + 1))] 133)
  rw [s3] at e4
  generalize w3.alloc (.cells #[.map (some (w.heap.size + 1 + 1))] 133) = w4 at e4 b4 ⊢
  refine ⟨⟨(e2.next b3).next b4, e4, ((e1.next b2).next b3).next b4⟩, e3.below b4, by omega, by omega, by omega, by omega, ?_, by omega, by omega, by omega⟩
  exact b1.trans ((b2.mono (by omega)).trans ((b3.mono (by omega)).trans (b4.mono (by omega))))
theorem snocInd {α : Type} {p : List α → Prop} (h0 : p []) (h1 : ∀ l x, p l → p (l ++ [x])) (l : List α) : p l := by
  have : ∀ l : List α, p l.reverse := by
    intro l
    induction l with
    | nil => exact h0
    | cons x l ih => rw [List.reverse_cons]; exact h1 _ _ ih
  simpa using this l.reverse
def boolE : Value → Option (DataW Unit × List MemPlace)
  | .bool b => some (.lit (.bool b), [])
  | _ => none
theorem boolE_inv {v : Value} {z : DataW Unit × List MemPlace} (h : boolE v = some z) : ∃ b, v = .bool b ∧ z = (.lit (.bool b), []) := by
  unfold boolE at h
  split at h
  · rename_i b
    exact ⟨b, rfl, by injection h with h; exact h.symm⟩
  · cases h
def setB (l : List Str) : DataW Unit := Maps.setOf (.lit (.bool true)) (l.map litS)
theorem has_setB (l : List Str) (c : Str) : Maps.has (setB l) (litS c) = decide (c ∈ l) := by
  unfold setB
  rw [Maps.has_setOf _ _ _ (fun x hx => by obtain ⟨s, _, rfl⟩ := List.mem_map.1 hx; exact keyLit s)]
  rw [Bool.eq_iff_iff, List.any_eq_true, decide_eq_true_eq]
  constructor
  · rintro ⟨x, hx, hk⟩
    obtain ⟨s, hs, rfl⟩ := List.mem_map.1 hx
    rw [sameKey_litS, decide_eq_true_eq] at hk
    subst hk
    exact hs
  · intro h
    exact ⟨litS c, List.mem_map.2 ⟨c, h, rfl⟩, by rw [sameKey_litS, decide_eq_true rfl]⟩
theorem setB_snoc (l : List Str) (c : Str) : setB (l ++ [c]) = (setB l).put (litS c) (.lit (.bool true)) := by
  unfold setB
  rw [List.map_append, List.map_singleton, Maps.setOf_snoc]
theorem isMap_setB (l : List Str) : Maps.IsMap (setB l) := (Maps.tidy_setOf _ _ (fun x hx => by obtain ⟨s, _, rfl⟩ := List.mem_map.1 hx; exact keyLit s)).isMap
theorem at_setB : ∀ (l : List Str) (c : Str), (setB l).atKey (litS c) (.lit (.bool false)) = .lit (.bool (decide (c ∈ l))) := by
  intro l c
  refine snocInd (p := fun l => (setB l).atKey (litS c) (.lit (.bool false)) = .lit (.bool (decide (c ∈ l)))) ?_ (fun l s ih => ?_) l
  · rw [Maps.atKey_of_not_has (by rw [has_setB]; simp)]
    simp
  · rw [setB_snoc]
    by_cases h : c = s
    · subst h
      rw [Maps.atKey_put_same (isMap_setB l) (keyLit c)]
      simp
    · rw [Maps.atKey_put_other (fun e => h (by unfold litS at e; injection e))]
      rw [ih]
      simp [h]
structure KStud (w : World) (B n : Nat) (l : List Str) : Prop where
  own : w.ownsMap Tryz.prog 9 boolE B n (setB l)
  sz : Maps.size (setB l) = l.length
theorem KStud.made (w : World) : KStud (w.alloc (.map #[] 0)) w.heap.size 0 [] := ⟨World.ownsMap_made _ _ _ _, rfl⟩
theorem KStud.kept {w w' : World} {B n : Nat} {l : List Str} {row : Option Nat} (h : KStud w B n l) (hg : w.grownBy w' row) (hne : some B ≠ row) : KStud w' B n l := ⟨h.own.kept hg hne, h.sz⟩
theorem KStud.below {w w' : World} {B n : Nat} {l : List Str} (h : KStud w B n l) (hb : Below w.heap.size w w') : KStud w' B n l := h.kept (below_grown hb (Nat.le_refl _)) (by simp)
theorem KStud.lt {w : World} {B n : Nat} {l : List Str} (h : KStud w B n l) : B < w.heap.size := h.own.lt
theorem KStud.put {w w' : World} {B n : Nat} {l : List Str} {s : Str} (h : KStud w B n l) (ho : w'.ownsMap Tryz.prog 9 boolE B (n + 1) ((setB l).put (litS s) (.lit (.bool true)))) : KStud w' B (n + 1) (addS l s) := by
  unfold addS
  by_cases hs : s ∈ l
  · rw [if_pos hs]
    have e : (setB l).put (litS s) (.lit (.bool true)) = setB l := by
      refine Maps.ext (ho.canon law9) (h.own.canon law9) (fun k => ?_) (fun k z hk => ?_)
      · by_cases hk : k = litS s
        · subst hk
          rw [Maps.has_put_same (isMap_setB l) (keyLit s), has_setB, decide_eq_true hs]
        · rw [Maps.has_put_other hk]
      · by_cases hk : k = litS s
        · subst hk
          rw [Maps.atKey_put_same (isMap_setB l) (keyLit s)]
          exact (at_true l s hs z).symm
        · rw [Maps.atKey_put_other hk]
    rw [e] at ho
    exact ⟨ho, h.sz⟩
  · rw [if_neg hs]
    refine ⟨by rw [setB_snoc]; exact ho, ?_⟩
    rw [setB_snoc, Maps.size_put (h.own.tidy law9), has_setB, decide_eq_false hs, h.sz, List.length_append, List.length_singleton]
    rfl
where
  at_true : ∀ (l : List Str) (s : Str), s ∈ l → ∀ z : DataW Unit, (setB l).atKey (litS s) z = .lit (.bool true) := by
    intro l s
    refine snocInd (p := fun l => s ∈ l → ∀ z : DataW Unit, (setB l).atKey (litS s) z = .lit (.bool true)) (fun h => by simp at h) (fun l t ih => ?_) l
    · intro h z
      rw [setB_snoc]
      by_cases e : s = t
      · subst e
        rw [Maps.atKey_put_same (isMap_setB l) (keyLit s)]
      · rw [Maps.atKey_put_other (fun k => e (by unfold litS at k; injection k))]
        exact ih (by simpa [e] using h) z
theorem wpList_lookup_known {P : Program} (w : World) {ops : Array Oper} {rest : List Oper} {o : Oper} {a : Act} {Q : Exit → Act → World → Prop} (hg : o.guard = none) (m x : Operand) (t : TypeId) (hop : o.op = Op.lookup t m x false)
    (k e : TypeId) (K : Keyed P k) (ht : P.underlying t = some (.map k e)) (hz : (zeroValue e).run P w = .ok (.bool false) w) (b n : Nat) (D : DataW Unit)
    (hm : a.eval m = .map (some b)) (hown : w.ownsMap P k boolE b n D) (key : Value) (kl : Lit) (hx : a.eval x = key) (hkey : keyOf P k key = some kl) (r : Bool) (hat : D.atKey kl (.lit (.bool false)) = .lit (.bool r))
    (hK : wpList P ops Q rest (a.put o.dst (.bool r)) w) :
    wpList P ops Q (o :: rest) a w := by
  refine wpList_plain hg fun K' hK' => ?_
  obtain ⟨v, ps, hrun, hv⟩ := hown.lookup K ht hz (zd := .lit (.bool false)) (zp := []) rfl hkey
  obtain ⟨b', rfl, e1⟩ := boolE_inv hv
  rw [hat] at e1
  injection e1 with e1 _
  injection e1 with e1
  injection e1 with e1
  subst e1
  unfold Oper.wp
  simp [execOp, hop, hm, hx, hrun, Result.andThen]
  exact hK' _ _ hK
theorem zeroBool (w : World) : (zeroValue 4).run Tryz.prog w = .ok (.bool false) w := by kernel_rfl
structure Gr2 (M N : Nat) (w w' : World) : Prop where
  os : w'.os = w.os
  tape : w'.tape = w.tape
  output : w'.output = w.output
  size : w.heap.size ≤ w'.heap.size
  block : ∀ k, k < w.heap.size → k ≠ M → k ≠ N → w'.heap[k]? = w.heap[k]?
theorem Gr2.refl (M N : Nat) (w : World) : Gr2 M N w w := ⟨rfl, rfl, rfl, Nat.le_refl _, fun _ _ _ _ => rfl⟩
theorem Gr2.trans {M N : Nat} {a b c : World} (h : Gr2 M N a b) (k : Gr2 M N b c) : Gr2 M N a c :=
  ⟨k.os.trans h.os, k.tape.trans h.tape, k.output.trans h.output, Nat.le_trans h.size k.size, fun j hj h1 h2 => (k.block j (Nat.lt_of_lt_of_le hj h.size) h1 h2).trans (h.block j hj h1 h2)⟩
theorem Gr2.of {M N : Nat} {a b : World} {row : Option Nat} (h : a.grownBy b row) (hr : ∀ j, row = some j → j = M ∨ j = N ∨ a.heap.size ≤ j) : Gr2 M N a b :=
  ⟨h.os, h.tape, h.output, h.size, fun k hk h1 h2 => h.block k hk (fun e => by
    rcases hr k e.symm with rfl | rfl | h3
    · exact h1 rfl
    · exact h2 rfl
    · omega)⟩
theorem Gr2.below {M N : Nat} {a b : World} (h : Below a.heap.size a b) : Gr2 M N a b := ⟨h.os, h.tape, h.output, h.size, fun k hk _ _ => h.block k hk⟩
theorem Gr2.under {M N B : Nat} {w w' : World} (h : Gr2 M N w w') (hB : B ≤ w.heap.size) (h1 : B ≤ M) (h2 : B ≤ N) : Below B w w' :=
  ⟨h.os, h.tape, h.output, h.size, fun k hk => h.block k (by omega) (by omega) (by omega)⟩
theorem Gr2.row {M N : Nat} {w w' : World} (h : Gr2 M N w w') {B e z n : Nat} {v : Value} {xs : List Value} (ho : w.ownsRow B e z v n xs) (h1 : v.ownBlock ≠ some M) (h2 : v.ownBlock ≠ some N) : w'.ownsRow B e z v n xs := by
  refine ⟨ho.1, ?_⟩
  rcases ho.2 with hn | ⟨g, cap, cur, rfl, hb, hgg, rest⟩
  · exact .inl hn
  · refine .inr ⟨g, cap, cur, rfl, hb, ?_, rest⟩
    rw [h.block g (Array.getElem?_eq_some_iff.1 hgg).1 (fun e => h1 (by simp [Value.ownBlock, e])) (fun e => h2 (by simp [Value.ownBlock, e]))]
    exact hgg
structure Cap where
  NB : Nat
  WB : Nat
  KB : Nat
  AB : Nat
  MB : Nat
  M : Nat
  N : Nat
def Cap.dist (c : Cap) : Value := .func (.func 92) #[] #[.pointer (some ⟨c.KB, 0, none⟩), .pointer (some ⟨c.AB, 0, none⟩), .pointer (some ⟨c.MB, 0, none⟩)]
def Cap.fn (c : Cap) : Value := .func (.func 69) #[] #[.pointer (some ⟨c.NB, 0, none⟩), .pointer (some ⟨c.WB, 0, none⟩)]
structure CapIn (w : World) (c : Cap) : Prop where
  d : DistIn w c.KB c.AB c.MB c.M
  n : Box1 w c.NB 81 (.map (some c.N))
  f : Box1 w c.WB 71 c.dist
  apart : c.M ≠ c.N ∧ c.KB ≠ c.M ∧ c.AB ≠ c.M ∧ c.MB ≠ c.M ∧ c.NB ≠ c.M ∧ c.WB ≠ c.M ∧ c.KB ≠ c.N ∧ c.AB ≠ c.N ∧ c.MB ≠ c.N ∧ c.NB ≠ c.N ∧ c.WB ≠ c.N
theorem CapIn.kept {w w' : World} {c : Cap} (h : CapIn w c) (hg : Gr2 c.M c.N w w') : CapIn w' c := by
  obtain ⟨a1, a2, a3, a4, a5, a6, a7, a8, a9, a10, a11⟩ := h.apart
  refine ⟨h.d.kept (fun b hb => ?_), h.n.kept (hg.block _ h.n.lt a5 a10), h.f.kept (hg.block _ h.f.lt a6 a11), h.apart⟩
  rcases hb with rfl | rfl | rfl
  · exact hg.block _ h.d.k.lt a2 a7
  · exact hg.block _ h.d.a.lt a3 a8
  · exact hg.block _ h.d.m.lt a4 a9
structure Acc (w : World) (c : Cap) (pre : List ReqD) : Prop where
  m : KMap w c.M (wishes pre)
  s : KStud w c.N pre.length (studs pre)
theorem Acc.below {w w' : World} {c : Cap} {pre : List ReqD} (h : Acc w c pre) (hb : Below w.heap.size w w') : Acc w' c pre := ⟨h.m.below hb, h.s.below hb⟩
def preA (pre : List ReqD) (r : ReqD) : List ReqD := if accM pre r = 0 then pre ++ [r] else pre
def AccOut (c : Cap) (pre : List ReqD) (r : ReqD) (w : World) (e : Ending) (w' : World) : Prop := e = .returned (.int .i64 (accM pre r)) ∧ Acc w' c (preA pre r) ∧ Gr2 c.M c.N w w'
theorem accM_add (pre : List ReqD) (r : ReqD) (h : ¬ (r.s ∉ studs pre ∧ (studs pre).length = 64)) : accM pre r = (addW (wishes pre) (r.s, r.c)).2 ∧ ((addW (wishes pre) (r.s, r.c)).1 = wishes (preA pre r)) := by
  have e : (wishes pre).length = pre.length := by simp [wishes]
  have e1 : accM pre r = (addW (wishes pre) (r.s, r.c)).2 := by
    unfold accM addW
    rw [if_neg h, e]
    split
    · rfl
    · split <;> rfl
  refine ⟨e1, ?_⟩
  unfold preA
  rw [e1]
  unfold addW
  rw [e]
  split
  · simp
  · split
    · simp
    · simp [wishes]
set_option maxHeartbeats 16000000 in
set_option maxRecDepth 100000 in
theorem accept_any (c : Cap) (pre : List ReqD) (r : ReqD) (q : ReqA) (hp : Few pre) (hs : r.s.length ≤ 4294967295) (hc : r.c.length ≤ 4294967295) (w : World) (hC : CapIn w c) (hA : Acc w c pre) :
    Calls Tryz.prog 69 #[reqV r q, .pointer (some ⟨c.NB, 0, none⟩), .pointer (some ⟨c.WB, 0, none⟩)] w (AccOut c pre r w) := by
  have ed : ∀ args w, (callFunc 92 args).run Tryz.prog w = .ok (.enter 92 args) w := enters_of Tryz.func92 (by kernel_rfl) rfl
  obtain ⟨NB, WB, KB, AB, MB, M, N⟩ := c
  obtain ⟨s, co, p, l⟩ := r
  unfold AccOut reqV
  dsimp only at hs hc ⊢
  have hacc := accM_add pre ⟨s, co, p, l⟩
  have hprem : ∀ h : accM pre ⟨s, co, p, l⟩ ≠ 0, preA pre ⟨s, co, p, l⟩ = pre := fun h => if_neg h
  have hpre0 : ∀ h : accM pre ⟨s, co, p, l⟩ = 0, preA pre ⟨s, co, p, l⟩ = pre ++ [⟨s, co, p, l⟩] := fun h => if_pos h
  have h64 : s ∉ studs pre → (studs pre).length = 64 → accM pre ⟨s, co, p, l⟩ = 2 := fun h1 h2 => if_pos ⟨h1, h2⟩
  have hsz : (ba s).size ≤ maxLen := by rw [Lib.size_eq]; show s.length ≤ maxLen; unfold maxLen; omega
  have hcz : (ba co).size ≤ maxLen := by rw [Lib.size_eq]; show co.length ≤ maxLen; unfold maxLen; omega
  have hkey : keyOf Tryz.prog 9 (.string (ba s)) = some (litS s) := by have := keyOf_string_mk Tryz.underlying9 hsz; exact this
  have hat := at_setB (studs pre) s
  have hsn := studs_snoc pre ⟨s, co, p, l⟩
  dsimp only at hacc hsn
  have hb1 := (Below.refl w.heap.size w).alloc (Nat.le_refl _) (.cells #[.string (ba s), .string (ba co), .int .i64 p, .slice q.1 l.length q.2] 61)
  have hX := Box4.new w (.string (ba s)) (.string (ba co)) (.int .i64 p) (.slice q.1 l.length q.2)
  have hdi := fun W (hD : DistIn W KB AB MB M) (h : KMap W M (wishes pre)) => dist_any KB AB MB M (wishes pre) (ba s) (ba co) p q.1 l.length q.2 (by have := hp.1; simpa [wishes] using this) hsz hcz W hD h
  unfold AddOutK at hdi
  simp only [lst_ba] at hdi
  obtain ⟨A, hAe⟩ : ∃ A, accM pre ⟨s, co, p, l⟩ = A := ⟨_, rfl⟩
  obtain ⟨PA, hPA⟩ : ∃ A, preA pre ⟨s, co, p, l⟩ = A := ⟨_, rfl⟩
  obtain ⟨⟨L', E⟩, hLE⟩ : ∃ A, addW (wishes pre) (s, co) = A := ⟨_, rfl⟩
  rw [hLE] at hacc hdi
  dsimp only at hacc hdi
  rw [hAe, hPA] at hacc
  rw [hAe] at hprem hpre0 h64 ⊢
  rw [hPA] at hprem hpre0 ⊢
  obtain ⟨S, hS⟩ : ∃ S, ba s = S := ⟨_, rfl⟩
  obtain ⟨C, hCo⟩ : ∃ S, ba co = S := ⟨_, rfl⟩
  obtain ⟨n, hn⟩ : ∃ n, l.length = n := ⟨_, rfl⟩
  rw [hS, hCo, hn] at hb1 hX hdi ⊢
  rw [hS] at hkey
  have k0 : (w.alloc (.cells #[.string S, .string C, .int .i64 p, .slice q.1 n q.2] 61)).cell? ⟨NB, 0, none⟩ = some (.map (some N)) := Lib.cell?_alloc_some _ hC.n.cell
  obtain ⟨w1, hw1⟩ : ∃ w1, w.alloc (.cells #[.string S, .string C, .int .i64 p, .slice q.1 n q.2] 61) = w1 := ⟨_, rfl⟩
  rw [hw1] at hb1 hX
  have hC1 := hC.kept (Gr2.below hb1)
  have hA1 := hA.below hb1
  have hMw : M < w.heap.size := hA.m.lt
  have hNw : N < w.heap.size := hA.s.lt
  have HB1 := hid hb1
  have HX := hid hX
  have HKEY := hid hkey
  have HW1 := hid hw1
  have HSN := hid hsn
  have HPM := hid hprem
  have HP0 := hid hpre0
  have HC1 := hid hC1
  have HA1 := hid hA1
  have HFEW := hid hp.1
  have HMN := hid hMw
  have HNN := hid hNw
  have CD := hid (hdi w1 hC1.d hA1.m)
  have c0 := hC1.n.cell
  have c1 := hC1.f.cell
  have l0 := hC1.n.lt
  have l1 := hC1.f.lt
  obtain ⟨x0, x1, x2, x3⟩ := hX.cells
  have lx := hX.lt
  have hsz2 := hA1.s.sz
  unfold Cap.dist at c1
  dsimp only at c0 c1 l0 l1 hsz2
  have key : ∀ (w2 : World), KMap w2 M L' → w1.grownBy w2 (some M) → A = E → L' = wishes PA → KStud w2 N pre.length (studs pre) ∧ CapIn w2 ⟨NB, WB, KB, AB, MB, M, N⟩ ∧ Box4 w2 w.heap.size (.string S) (.string C) (.int .i64 p) (.slice q.1 n q.2) ∧ Gr2 M N w w2 := by
    intro w2 hk hg _ _
    have hg2 : Gr2 M N w1 w2 := Gr2.of hg (fun j hj => .inl (by injection hj with hj; exact hj.symm))
    refine ⟨hA1.s.kept hg (fun e => hC1.apart.1 (by injection e with e; exact e.symm)), hC1.kept hg2, hX.kept (hg.block _ hX.lt (fun e => by injection e with e; omega)), (Gr2.below hb1).trans hg2⟩
  have KEY := hid key
  clear hC hA hprem hpre0 hkey hsn hS hCo hn hX hb1 hw1 hC1 hA1 hsz hcz hp hPA hdi hs hc hMw hNw hLE key
  have fin0 : ∀ w2 w4 : World, KMap w2 M L' → w1.grownBy w2 (some M) → A = 0 → L' = wishes PA → A = E → w4.ownsMap Tryz.prog 9 boolE N (pre.length + 1) ((setB (studs pre)).put (litS s) (.lit (.bool true))) → w2.grownBy w4 (some N) →
      Acc w4 ⟨NB, WB, KB, AB, MB, M, N⟩ PA ∧ Gr2 M N w w4 := by
    intro w2 w4 hk hg hA0 hL hAE ho hg4
    obtain ⟨k1, k2, k3, k4⟩ := KEY.out w2 hk hg hAE hL
    have hpa := HP0.out hA0
    have hMN := k2.apart.1
    refine ⟨⟨?_, ?_⟩, k4.trans (Gr2.of hg4 (fun j hj => .inr (.inl (by injection hj with hj; exact hj.symm))))⟩
    · rw [← hL]; exact hk.kept hg4 (fun e => hMN (by injection e))
    · have := k1.put ho
      rw [hpa, HSN.out, List.length_append]
      exact this
  have fin1 : ∀ w2 : World, KMap w2 M L' → w1.grownBy w2 (some M) → A ≠ 0 → L' = wishes PA → A = E → Acc w2 ⟨NB, WB, KB, AB, MB, M, N⟩ PA ∧ Gr2 M N w w2 := by
    intro w2 hk hg hA0 hL hAE
    obtain ⟨k1, k2, k3, k4⟩ := KEY.out w2 hk hg hAE hL
    refine ⟨⟨by rw [← hL]; exact hk, by rw [HPM.out hA0]; exact k1⟩, k4⟩
  have FIN0 := hid fin0
  have FIN1 := hid fin1
  clear fin0 fin1
  by_cases hm : s ∈ studs pre
  · have hd : decide (s ∈ studs pre) = true := decide_eq_true hm
    rw [hd] at hat
    have HAT := hid hat
    have ha := hid (hacc (fun h => h.1 hm))
    clear hacc hsz2 hd hat hm h64 hAe
    by_cases hE : E = 0
    · subst hE
      go_enter Tryz.func69, Tryz.ntmps69
      go_wp2_with (at_lookup; rw [HW1.out]; refine wpList_lookup_known _ rfl _ _ 81 rfl 9 4 law9 Tryz.underlying81 (zeroBool _) N pre.length (setB (studs pre)) rfl HA1.out.s.own _ _ rfl HKEY.out true HAT.out ?_)
      clear k0
      refine CD.out.mono ?_
      rintro e w2 ⟨rfl, hk2, hg2⟩
      obtain ⟨hs2, hC2, hX2, hG2⟩ := KEY.out w2 hk2 hg2 ha.out.1 ha.out.2
      have n0 := hC2.n.cell
      dsimp only at n0
      have ln := hC2.n.lt
      dsimp only at ln
      obtain ⟨y0, y1, y2, y3⟩ := hX2.cells
      have ly := hX2.lt
      have HS2 := hid hs2
      have HK2 := hid hk2
      have HG2 := hid hg2
      have hA0 : A = 0 := ha.out.1
      have HA0 := hid hA0
      clear hs2 hC2 hX2 hG2 hk2 hg2 c0 c1 x0 x1 x2 x3 l0 l1 lx hA0
      go_wp2_with (at_mapUpdate; refine wpList_mapUpdate_own _ rfl _ _ _ 81 rfl 9 4 law9 Tryz.underlying81 boolE N pre.length (setB (studs pre)) rfl HS2.out.own (by unfold maxLen; have := HFEW.out; omega) _ _ _ rfl rfl HKEY.out (.lit (.bool true)) [] rfl ?_; intro w4 hown4 hgrow4)
      go_ret
      obtain ⟨r1, r2⟩ := FIN0.out w2 w4 HK2.out HG2.out HA0.out ha.out.2 ha.out.1 hown4 hgrow4
      rw [HA0.out]
      exact ⟨rfl, r1, r2⟩
    · go_enter Tryz.func69, Tryz.ntmps69
      go_wp2_with (at_lookup; rw [HW1.out]; refine wpList_lookup_known _ rfl _ _ 81 rfl 9 4 law9 Tryz.underlying81 (zeroBool _) N pre.length (setB (studs pre)) rfl HA1.out.s.own _ _ rfl HKEY.out true HAT.out ?_)
      clear k0
      have hEb : ((E : Int) == 0) = false := beq_eq_false_iff_ne.2 hE
      refine CD.out.mono ?_
      rintro e w2 ⟨rfl, hk2, hg2⟩
      obtain ⟨r1, r2⟩ := FIN1.out w2 hk2 hg2 (by rw [ha.out.1]; exact hE) ha.out.2 ha.out.1
      have R1 := hid r1
      have R2 := hid r2
      have HAE := hid ha.out.1
      clear r1 r2 hk2 hg2
      go_wp2
      go_ret
      rw [HAE.out]
      exact ⟨rfl, R1.out, R2.out⟩
  · have hd : decide (s ∈ studs pre) = false := decide_eq_false hm
    rw [hd] at hat
    have HAT := hid hat
    by_cases h6 : (studs pre).length = 64
    · have hA2 := h64 hm h6
      have HA2 := hid hA2
      rw [h6] at hsz2
      have hlen := HA1.out.s.own.len Tryz.underlying81 3
      rw [hsz2] at hlen
      have HPP := hid (HPM.out (by rw [hA2]; decide))
      clear hacc hsz2 hd hat hm h64 hA2 h6 hAe
      go_enter Tryz.func69, Tryz.ntmps69
      go_wp2_with ((first
        | (at_lookup; rw [HW1.out]; refine wpList_lookup_known _ rfl _ _ 81 rfl 9 4 law9 Tryz.underlying81 (zeroBool _) N pre.length (setB (studs pre)) rfl HA1.out.s.own _ _ rfl HKEY.out false HAT.out ?_)))
      go_ret
      rw [HA2.out, HPP.out]
      exact ⟨rfl, HA1.out, Gr2.below HB1.out⟩
    · have ha := hid (hacc (fun h => h6 h.2))
      have hlen := HA1.out.s.own.len Tryz.underlying81 3
      rw [hsz2] at hlen
      have hzb : (((studs pre).length : Int) == 64) = false := beq_eq_false_iff_ne.2 (by omega)
      have hzb2 : ¬ ((studs pre).length : Int) = 64 := by omega
      clear hacc hsz2 hd hat hm h64 hAe
      by_cases hE : E = 0
      · subst hE
        go_enter Tryz.func69, Tryz.ntmps69
        go_wp2_with ((first
          | (at_lookup; rw [HW1.out]; refine wpList_lookup_known _ rfl _ _ 81 rfl 9 4 law9 Tryz.underlying81 (zeroBool _) N pre.length (setB (studs pre)) rfl HA1.out.s.own _ _ rfl HKEY.out false HAT.out ?_)))
        clear k0
        refine CD.out.mono ?_
        rintro e w2 ⟨rfl, hk2, hg2⟩
        obtain ⟨hs2, hC2, hX2, hG2⟩ := KEY.out w2 hk2 hg2 ha.out.1 ha.out.2
        have n0 := hC2.n.cell
        dsimp only at n0
        have ln := hC2.n.lt
        dsimp only at ln
        obtain ⟨y0, y1, y2, y3⟩ := hX2.cells
        have ly := hX2.lt
        have HS2 := hid hs2
        have HK2 := hid hk2
        have HG2 := hid hg2
        have hA0 : A = 0 := ha.out.1
        have HA0 := hid hA0
        clear hs2 hC2 hX2 hG2 hk2 hg2 c0 c1 x0 x1 x2 x3 l0 l1 lx hA0
        go_wp2_with (at_mapUpdate; refine wpList_mapUpdate_own _ rfl _ _ _ 81 rfl 9 4 law9 Tryz.underlying81 boolE N pre.length (setB (studs pre)) rfl HS2.out.own (by unfold maxLen; have := HFEW.out; omega) _ _ _ rfl rfl HKEY.out (.lit (.bool true)) [] rfl ?_; intro w4 hown4 hgrow4)
        go_ret
        obtain ⟨r1, r2⟩ := FIN0.out w2 w4 HK2.out HG2.out HA0.out ha.out.2 ha.out.1 hown4 hgrow4
        rw [HA0.out]
        exact ⟨rfl, r1, r2⟩
      · go_enter Tryz.func69, Tryz.ntmps69
        go_wp2_with ((first
          | (at_lookup; rw [HW1.out]; refine wpList_lookup_known _ rfl _ _ 81 rfl 9 4 law9 Tryz.underlying81 (zeroBool _) N pre.length (setB (studs pre)) rfl HA1.out.s.own _ _ rfl HKEY.out false HAT.out ?_)))
        clear k0
        have hEb : ((E : Int) == 0) = false := beq_eq_false_iff_ne.2 hE
        refine CD.out.mono ?_
        rintro e w2 ⟨rfl, hk2, hg2⟩
        obtain ⟨r1, r2⟩ := FIN1.out w2 hk2 hg2 (by rw [ha.out.1]; exact hE) ha.out.2 ha.out.1
        have R1 := hid r1
        have R2 := hid r2
        have HAE := hid ha.out.1
        clear r1 r2 hk2 hg2
        go_wp2
        go_ret
        rw [HAE.out]
        exact ⟨rfl, R1.out, R2.out⟩
end Go.Proofs.YtlgmanbilaminaaGreatDoor.S12
