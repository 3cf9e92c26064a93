/-
  What stands while a class is made. Conditions: as the lemmas state. From a walk to a row, for every statement of stage 12: a call that returns true and turns .. Conditions: as stated.
-/
import Derived.Test.YtlgmanbilaminaaGreatDoorMN05
import Derived.OneCell
import Derived.Laws.CopyOwn
import Derived.Test.YtlgmanbilaminaaGreatDoorCards
import Derived.Test.YtlgmanbilaminaaGreatDoorTie
import Derived.Lib.SmallJoins
import Derived.Stop.LaidErr
import Derived.Deep.DeepWitnessRowRef
import Derived.Deep.DeepLaidRun
import Derived.Lib.LaidU8
set_option linter.unusedVariables false
namespace Go.Proofs.YtlgmanbilaminaaGreatDoor.S10
open Go Go.Proofs Go.RowKit Go.Lib Go.Proofs.YtlgmanbilaminaaGreatDoor
section
variable {P : Program} {ops : Array Oper} {Q : Exit → Act → World → Prop} {md : Region.Mode} {S S' : World → Prop}
theorem anyH_more (h : ∀ w, S' w → S w) : ∀ (fuel : Nat) (listed : Array Bool) (a : Act) (w : World), wpAnyH P md ops Q S' fuel listed a w → wpAnyH P md ops Q S fuel listed a w
  | 0, _, _, _, k => k
  | fuel + 1, _, _, _, k => ⟨k.1, fun i hi => wpOp_mono (fun a' w' x => ⟨h w' x.1, anyH_more h fuel _ a' w' x.2⟩) (k.2 i hi)⟩
end
theorem anyH_listed {P : Program} {ops : Array Oper} {Q : Exit → Act → World → Prop} {md : Region.Mode} {S : World → Prop} {fuel : Nat} {listed listed' : Array Bool} {a : Act} {w : World} (h : listed = listed') (k : wpAnyH P md ops Q S fuel listed' a w) : wpAnyH P md ops Q S fuel listed a w := by
  rw [h]; exact k
theorem anyH_gen {P : Program} {ops : Array Oper} {Q : Exit → Act → World → Prop} {md : Region.Mode} {S : World → Prop} {fuel : Nat} {listed : Array Bool} {a : Act} {w : World} (h : ∀ ops' Q', ops' = ops → Q' = Q → wpAnyH P md ops' Q' S fuel listed a w) : wpAnyH P md ops Q S fuel listed a w := h _ _ rfl rfl
def courseS : Nat → Str
  | 0 => [77, 65, 49]
  | 1 => [77, 65, 50]
  | _ => [80, 72]
def partS : Nat → Str
  | 0 => [76]
  | _ => [88]
def cArr (r : ClassD) (q : ClassA) : Array Value := #[.string (ba r.code), .string (ba r.course), .string (ba r.part), .int .i64 r.len, .slice q.aP r.pats.length q.cP, .int .i64 r.seats, .slice q.aF r.feats.length q.cF, .slice q.aS r.staff.length q.cS, .slice q.aT r.starts.length q.cT]
def featureS : List Str := [[98, 101, 97, 109, 101, 114], [108, 97, 98], [112, 105, 97, 110, 111]]
def codeS (j : Nat) : Str := [99, UInt8.ofNat (49 + j)]
structure ClassOk (d s : Int) (n : Nat) (names : List Str) (code : Str) (x : ClassD) : Prop where
  code : x.code = code
  course : ∃ k, k < 3 ∧ x.course = courseS k
  part : ∃ k, k < 2 ∧ x.part = partS k
  len : 1 ≤ x.len ∧ x.len ≤ 2 ∧ x.len ≤ s
  pats : x.pats ≠ [] ∧ x.pats.length ≤ 2 ∧ x.pats.Nodup ∧ ∀ p ∈ x.pats, 1 ≤ p ∧ p < 2 ^ n
  seats : x.seats = 0 ∨ x.seats = 10 ∨ x.seats = 20 ∨ x.seats = 30
  feats : x.feats.Sublist featureS
  staff : x.staff.Sublist names
  starts : x.starts ≠ [] ∧ x.starts.length ≤ 3 ∧ x.starts.Pairwise (fun a b => a.1 < b.1) ∧ ∀ t ∈ x.starts, (0 ≤ t.1 ∧ t.1 < d) ∧ 0 ≤ t.2 ∧ t.2 + x.len ≤ s
structure ClassesOk (d s : Int) (n : Nat) (names : List Str) (ls : List ClassD) : Prop where
  len : ls.length ≤ 6
  at_ : ∀ (j : Nat) (x : ClassD), ls[j]? = some x → ClassOk d s n names (codeS j) x
def zeroArr : Array Value := #[.string ⟨#[]⟩, .string ⟨#[]⟩, .string ⟨#[]⟩, .int .i64 0, .slice none 0 0, .int .i64 0, .slice none 0 0, .slice none 0 0, .slice none 0 0]
theorem roll_box {g : Nat} {w w' : World} {B : Nat} {a : Array Value} (h : BoxC w B a) (hr : Rolled g w w') (hB : B ≠ g) : BoxC w' B a := h.kept (hr.block B hB)
theorem nine_else (W : World) (R k : Nat) (hk : k ≠ R) (u0 u1 u2 u3 u4 u5 u6 u7 u8 : Value) : (((((((((W.setCell ⟨R, 0, none⟩ u0).setCell ⟨R, 1, none⟩ u1).setCell ⟨R, 2, none⟩ u2).setCell ⟨R, 3, none⟩ u3).setCell ⟨R, 4, none⟩ u4).setCell ⟨R, 5, none⟩ u5).setCell ⟨R, 6, none⟩ u6).setCell ⟨R, 7, none⟩ u7).setCell ⟨R, 8, none⟩ u8).heap[k]? = W.heap[k]? := by
  rw [Below.heap_setCell _ ⟨R, 8, none⟩ _ k hk, Below.heap_setCell _ ⟨R, 7, none⟩ _ k hk, Below.heap_setCell _ ⟨R, 6, none⟩ _ k hk, Below.heap_setCell _ ⟨R, 5, none⟩ _ k hk, Below.heap_setCell _ ⟨R, 4, none⟩ _ k hk, Below.heap_setCell _ ⟨R, 3, none⟩ _ k hk, Below.heap_setCell _ ⟨R, 2, none⟩ _ k hk, Below.heap_setCell _ ⟨R, 1, none⟩ _ k hk, Below.heap_setCell _ ⟨R, 0, none⟩ _ k hk]
theorem nine_size (W : World) (R : Nat) (u0 u1 u2 u3 u4 u5 u6 u7 u8 : Value) : (((((((((W.setCell ⟨R, 0, none⟩ u0).setCell ⟨R, 1, none⟩ u1).setCell ⟨R, 2, none⟩ u2).setCell ⟨R, 3, none⟩ u3).setCell ⟨R, 4, none⟩ u4).setCell ⟨R, 5, none⟩ u5).setCell ⟨R, 6, none⟩ u6).setCell ⟨R, 7, none⟩ u7).setCell ⟨R, 8, none⟩ u8).heap.size = W.heap.size := by simp [World.setCell]
def actC (g z : Nat) (d s b m n : Int) (code : Str) (v9 v15 v17 v18 v19 v20 v22 v23 v24 v29 v30 v31 : Value) : Act :=
  { tmps := #[.pointer (some ⟨g, 0, none⟩), .agg #[.int .i64 d, .int .i64 s, .int .i64 b, .int .i64 m], .int .i64 n, .string (ba code), undef, .pointer (some ⟨z, 0, none⟩), undef, undef, .pointer (some ⟨z + 1, 0, none⟩), v9, undef, undef, undef, undef,
      .string (ba code), v15, .pointer (some ⟨g, 0, none⟩), v17, v18, v19, v20, .pointer (some ⟨g, 0, none⟩), v22, v23, v24, .pointer (some ⟨g, 0, none⟩), .pointer (some ⟨z, 1, none⟩), .int .i64 s, .int .i64 (min 2 s), v29, v30, v31,
      undef, undef, undef, undef, undef, undef, undef, undef, undef, undef, undef, undef, undef, undef, undef, undef, undef, undef, undef, undef, undef, undef, undef, undef, undef, undef, undef, undef, undef, undef, undef, undef, undef, undef, undef, undef, undef, undef, undef, undef, undef, undef, undef, undef, undef, undef, undef, undef, undef, undef, undef, undef, undef, undef, undef, undef, undef, undef, undef, undef, undef, undef, undef, undef, undef, undef, undef, undef, undef, undef, undef, undef, undef, undef, undef, undef, undef, undef, undef, undef, undef, undef, undef, undef, undef, undef, undef, undef, undef], defers := [] }
structure RG (w0 : World) (g c : Nat) (A : Option Addr) (L : List Int) (d s b m : Int) (BA BB BD : Option Nat) (w : World) : Prop where
  x : Cells4 52 w w0.heap.size d s b m
  r : BoxC w (w0.heap.size + 1) zeroArr
  e : ∃ k, DE w0 g c A L k w
  g0 : g < w0.heap.size
  a : ∀ k, BA = some k → w0.heap.size + 2 ≤ k ∧ k < w.heap.size ∧ ∀ j, j < 3 → w.cell? ⟨k, j, none⟩ = some (.string (ba (courseS j)))
  p : ∀ k, BB = some k → w0.heap.size + 2 ≤ k ∧ k < w.heap.size ∧ ∀ j, j < 2 → w.cell? ⟨k, j, none⟩ = some (.string (ba (partS j)))
  n : ∀ k, BD = some k → w0.heap.size + 2 ≤ k ∧ ∃ u0 u1 u2 u3 u4 u5 u6 u7 u8, BoxC w k #[u0, u1, u2, u3, u4, u5, u6, u7, u8]
  da : ∀ i j, BA = some i → BD = some j → i ≠ j
  dp : ∀ i j, BB = some i → BD = some j → i ≠ j
section
variable {w0 w w' : World} {g c : Nat} {A : Option Addr} {L : List Int} {d s b m : Int} {BA BB BD : Option Nat}
theorem RG.roll {k' : Nat} (h : RG w0 g c A L d s b m BA BB BD w) (hd : DiceAt w' g A L c k') (hr : Rolled g w w') : RG w0 g c A L d s b m BA BB BD w' := by
  obtain ⟨k, h0⟩ := h.e
  have hg := h.g0
  have hs := hr.size
  exact ⟨h.x.roll hr (by omega), roll_box h.r hr (by omega), ⟨k', h0.next hd hr⟩, hg,
    fun k e => by obtain ⟨h1, h2, h3⟩ := h.a k e; exact ⟨h1, by omega, fun j hj => (hr.cells k j (by omega)).trans (h3 j hj)⟩,
    fun k e => by obtain ⟨h1, h2, h3⟩ := h.p k e; exact ⟨h1, by omega, fun j hj => (hr.cells k j (by omega)).trans (h3 j hj)⟩,
    fun k e => by obtain ⟨h1, u0, u1, u2, u3, u4, u5, u6, u7, u8, h2⟩ := h.n k e; exact ⟨h1, u0, u1, u2, u3, u4, u5, u6, u7, u8, roll_box h2 hr (by omega)⟩, h.da, h.dp⟩
theorem RG.next (h : RG w0 g c A L d s b m BA BB BD w) (k : Below w.heap.size w w') : RG w0 g c A L d s b m BA BB BD w' := by
  obtain ⟨j, h0⟩ := h.e
  have hg := h.g0
  have hl := h.x.lt
  have hs := k.size
  exact ⟨h.x.under k, h.r.next k, ⟨j, h0.below (k.mono (by omega)) hg⟩, hg,
    fun i e => by obtain ⟨h1, h2, h3⟩ := h.a i e; exact ⟨h1, by omega, fun j hj => (World.cell?_of_block (w := w) (k.block i h2)).trans (h3 j hj)⟩,
    fun i e => by obtain ⟨h1, h2, h3⟩ := h.p i e; exact ⟨h1, by omega, fun j hj => (World.cell?_of_block (w := w) (k.block i h2)).trans (h3 j hj)⟩,
    fun i e => by obtain ⟨h1, u0, u1, u2, u3, u4, u5, u6, u7, u8, h2⟩ := h.n i e; exact ⟨h1, u0, u1, u2, u3, u4, u5, u6, u7, u8, h2.next k⟩, h.da, h.dp⟩
theorem RG.alloc (h : RG w0 g c A L d s b m BA BB BD w) (o : Obj) : RG w0 g c A L d s b m BA BB BD (w.alloc o) := h.next ((Below.refl _ w).alloc (Nat.le_refl _) o)
theorem RG.dice (h : RG w0 g c A L d s b m BA BB BD w) : ∃ k, DiceAt w g A L c k := by
  obtain ⟨k, h0⟩ := h.e
  exact ⟨k, h0.d⟩
theorem RG.size (h : RG w0 g c A L d s b m BA BB BD w) : w0.heap.size + 2 ≤ w.heap.size := by have := h.r.lt; omega
theorem RG.newA (h : RG w0 g c A L d s b m none BB BD w) : RG w0 g c A L d s b m (some w.heap.size) BB BD (w.alloc (.cells #[.string ⟨#[77, 65, 49]⟩, .string ⟨#[77, 65, 50]⟩, .string ⟨#[80, 72]⟩] 9)) := by
  have k := h.alloc (.cells #[.string ⟨#[77, 65, 49]⟩, .string ⟨#[77, 65, 50]⟩, .string ⟨#[80, 72]⟩] 9)
  refine ⟨k.x, k.r, k.e, k.g0, fun i e => ?_, k.p, k.n, fun i j ei ej => by injection ei with ei; obtain ⟨_, _, _, _, _, _, _, _, _, _, hn⟩ := h.n j ej; have := hn.lt; omega, k.dp⟩
  injection e with e
  subst e
  refine ⟨h.size, by simp, fun j hj => ?_⟩
  rw [Lib.cell_of_heap (heap_alloc_new w _)]
  rcases (show j = 0 ∨ j = 1 ∨ j = 2 by omega) with rfl | rfl | rfl <;> rfl
theorem RG.newB (h : RG w0 g c A L d s b m BA none BD w) : RG w0 g c A L d s b m BA (some w.heap.size) BD (w.alloc (.cells #[.string ⟨#[76]⟩, .string ⟨#[88]⟩] 9)) := by
  have k := h.alloc (.cells #[.string ⟨#[76]⟩, .string ⟨#[88]⟩] 9)
  refine ⟨k.x, k.r, k.e, k.g0, k.a, fun i e => ?_, k.n, k.da, fun i j ei ej => by injection ei with ei; obtain ⟨_, _, _, _, _, _, _, _, _, _, hn⟩ := h.n j ej; have := hn.lt; omega⟩
  injection e with e
  subst e
  refine ⟨h.size, by simp, fun j hj => ?_⟩
  rw [Lib.cell_of_heap (heap_alloc_new w _)]
  rcases (show j = 0 ∨ j = 1 by omega) with rfl | rfl <;> rfl
theorem RG.newD (h : RG w0 g c A L d s b m BA BB none w) : RG w0 g c A L d s b m BA BB (some w.heap.size) (w.alloc (.cells #[.string ⟨#[]⟩, .string ⟨#[]⟩, .string ⟨#[]⟩, .int .i64 0, .slice none 0 0, .int .i64 0, .slice none 0 0, .slice none 0 0, .slice none 0 0] 95)) := by
  have k := h.alloc (.cells #[.string ⟨#[]⟩, .string ⟨#[]⟩, .string ⟨#[]⟩, .int .i64 0, .slice none 0 0, .int .i64 0, .slice none 0 0, .slice none 0 0, .slice none 0 0] 95)
  refine ⟨k.x, k.r, k.e, k.g0, k.a, k.p, fun i e => ?_, fun i j ei ej => by injection ej with ej; have := (h.a i ei).2.1; omega, fun i j ei ej => by injection ej with ej; have := (h.p i ei).2.1; omega⟩
  injection e with e
  subst e
  exact ⟨h.size, _, _, _, _, _, _, _, _, _, BoxC.new w _⟩
theorem RG.newA' (h : RG w0 g c A L d s b m none BB BD w) : ∃ k, k = w.heap.size ∧ RG w0 g c A L d s b m (some k) BB BD (w.alloc (.cells #[.string ⟨#[77, 65, 49]⟩, .string ⟨#[77, 65, 50]⟩, .string ⟨#[80, 72]⟩] 9)) := ⟨_, rfl, h.newA⟩
theorem RG.newB' (h : RG w0 g c A L d s b m BA none BD w) : ∃ k, k = w.heap.size ∧ RG w0 g c A L d s b m BA (some k) BD (w.alloc (.cells #[.string ⟨#[76]⟩, .string ⟨#[88]⟩] 9)) := ⟨_, rfl, h.newB⟩
theorem RG.newD' (h : RG w0 g c A L d s b m BA BB none w) : ∃ k, k = w.heap.size ∧ RG w0 g c A L d s b m BA BB (some k) (w.alloc (.cells #[.string ⟨#[]⟩, .string ⟨#[]⟩, .string ⟨#[]⟩, .int .i64 0, .slice none 0 0, .int .i64 0, .slice none 0 0, .slice none 0 0, .slice none 0 0] 95)) := ⟨_, rfl, h.newD⟩
theorem RG.dropA (h : RG w0 g c A L d s b m BA BB BD w) : RG w0 g c A L d s b m none BB BD w := ⟨h.x, h.r, h.e, h.g0, fun k e => (by cases e), h.p, h.n, fun i j e => (by cases e), h.dp⟩
theorem RG.dropB (h : RG w0 g c A L d s b m BA BB BD w) : RG w0 g c A L d s b m BA none BD w := ⟨h.x, h.r, h.e, h.g0, h.a, fun k e => (by cases e), h.n, h.da, fun i j e => (by cases e)⟩
theorem RG.dropD (h : RG w0 g c A L d s b m BA BB BD w) : RG w0 g c A L d s b m BA BB none w := ⟨h.x, h.r, h.e, h.g0, h.a, h.p, fun k e => (by cases e), fun i j _ e => (by cases e), fun i j _ e => (by cases e)⟩
theorem RG.first {k : Nat} (h : DiceAt w g A L c k) (d s b m : Int) : RG w g c A L d s b m none none none ((w.alloc (.cells #[.int .i64 d, .int .i64 s, .int .i64 b, .int .i64 m] 52)).alloc (.cells zeroArr 95)) := by
  have hs : (w.alloc (.cells #[.int .i64 d, .int .i64 s, .int .i64 b, .int .i64 m] 52)).heap.size = w.heap.size + 1 := by simp
  have h1 := Cells4.new w d s b m 52
  have hz := BoxC.new (w.alloc (.cells #[.int .i64 d, .int .i64 s, .int .i64 b, .int .i64 m] 52)) zeroArr
  rw [hs] at hz
  exact ⟨h1.under ((Below.refl _ _).alloc (Nat.le_refl _) _), hz, ⟨k, ((DE.first h).alloc _).alloc _⟩, h.lt, fun k e => (by cases e), fun k e => (by cases e), fun k e => (by cases e), fun i j e => (by cases e), fun i j e => (by cases e)⟩
end
structure CC (w0 : World) (g c : Nat) (A : Option Addr) (L : List Int) (d s b m : Int) (CB : Nat) (x : ClassD) (q : ClassA) (w : World) : Prop where
  gr : Cells4 52 w w0.heap.size d s b m
  r : BoxC w (w0.heap.size + 1) zeroArr
  k : BoxC w CB (cArr x q)
  kb : w0.heap.size + 2 ≤ CB
  e : ∃ k, DE w0 g c A L k w
  p : w.ownsRow (w0.heap.size + 2) 3 1 (.slice q.aP x.pats.length q.cP) x.pats.length (intVals x.pats)
  f : S3.StrRow w (w0.heap.size + 2) (.slice q.aF x.feats.length q.cF) x.feats
  t : w.ownsRow (w0.heap.size + 2) 127 2 (.slice q.aT x.starts.length q.cT) x.starts.length (startVals x.starts)
  st : x.staff = [] ∧ q.aS = none ∧ q.cS = 0
  g0 : g < w0.heap.size
theorem ownsRow_kind {w : World} {B : Nat} {e : TypeId} {size : Nat} {v : Value} {n : Nat} {xs : List Value} (h : w.ownsRow B e size v n xs) : ∀ g, v.ownBlock = some g → ∃ c fz, w.heap[g]? = some (.cells c e fz) := by
  intro g hg
  rcases h.2 with ⟨rfl, _⟩ | ⟨g', cap, cur, rfl, _, hgg, _⟩
  · simp [Value.ownBlock] at hg
  · simp [Value.ownBlock] at hg
    subst hg
    exact ⟨_, _, hgg⟩
theorem kind_ne {w : World} {B : Nat} {e T : TypeId} {size : Nat} {v : Value} {n : Nat} {xs : List Value} {C : Nat} {a : Array Value} {fz : Nat × Nat} (h : w.ownsRow B e size v n xs) (hC : w.heap[C]? = some (.cells a T fz)) (hne : e ≠ T) : v.ownBlock ≠ some C := by
  intro hv
  obtain ⟨c', fz', h'⟩ := ownsRow_kind h C hv
  rw [hC] at h'
  injection h' with h'
  injection h' with _ h' _
  exact hne h'.symm
theorem kinds_ne {w : World} {B B' : Nat} {e e' : TypeId} {z z' : Nat} {v v' : Value} {n n' : Nat} {xs xs' : List Value} (h : w.ownsRow B e z v n xs) (h' : w.ownsRow B' e' z' v' n' xs') (hne : e ≠ e') : v.ownBlock = none ∨ v.ownBlock ≠ v'.ownBlock := by
  cases hb : v.ownBlock with
  | none => exact .inl rfl
  | some k =>
    refine .inr (fun hv => ?_)
    obtain ⟨c', fz', h2⟩ := ownsRow_kind h' k hv.symm
    exact kind_ne h h2 hne hb
section
variable {w0 w w' : World} {g c : Nat} {A : Option Addr} {L : List Int} {d s b m : Int} {CB : Nat} {x x' : ClassD} {q q' : ClassA}
theorem CC.roll {k' : Nat} (h : CC w0 g c A L d s b m CB x q w) (hd : DiceAt w' g A L c k') (hr : Rolled g w w') : CC w0 g c A L d s b m CB x q w' := by
  obtain ⟨k, h0⟩ := h.e
  have hg := h.g0
  have hk := h.kb
  exact ⟨h.gr.roll hr (by omega), roll_box h.r hr (by omega), roll_box h.k hr (by omega), hk, ⟨k', h0.next hd hr⟩, hr.row h.p (fun e => by have := World.ownsRow.lt h.p g e; omega), hr.row h.f (fun e => by have := World.ownsRow.lt h.f g e; omega), hr.row h.t (fun e => by have := World.ownsRow.lt h.t g e; omega), h.st, hg⟩
theorem CC.next (h : CC w0 g c A L d s b m CB x q w) (k : Below w.heap.size w w') : CC w0 g c A L d s b m CB x q w' := by
  obtain ⟨j, h0⟩ := h.e
  have hl := h.gr.lt
  exact ⟨h.gr.under k, h.r.next k, h.k.next k, h.kb, ⟨j, h0.below (k.mono (by omega)) h.g0⟩, S3.row_under h.p k, S3.row_under h.f k, S3.row_under h.t k, h.st, h.g0⟩
theorem CC.alloc (h : CC w0 g c A L d s b m CB x q w) (o : Obj) : CC w0 g c A L d s b m CB x q (w.alloc o) := h.next ((Below.refl _ w).alloc (Nat.le_refl _) o)
theorem CC.played {k' : Nat} (h : CC w0 g c A L d s b m CB x q w) (he : DE w g c A L k' w') : CC w0 g c A L d s b m CB x q w' := by
  obtain ⟨k, h0⟩ := h.e
  have hg := h.g0
  have hk := h.kb
  have hl := h.gr.lt
  have hz := he.p.size
  exact ⟨(he.p.block _ hl (by omega)).trans h.gr, h.r.kept (he.p.block _ h.r.lt (by omega)), h.k.kept (he.p.block _ h.k.lt (by omega)), hk, ⟨k', h0.trans he⟩,
    he.p.row h.p (fun k hk => by have h1 := World.ownsRow.lt h.p k hk; omega), he.p.row h.f (fun k hk => by have h1 := World.ownsRow.lt h.f k hk; omega), he.p.row h.t (fun k hk => by have h1 := World.ownsRow.lt h.t k hk; omega), h.st, hg⟩
theorem CC.dice (h : CC w0 g c A L d s b m CB x q w) : ∃ k, DiceAt w g A L c k := by
  obtain ⟨k, h0⟩ := h.e
  exact ⟨k, h0.d⟩
theorem CC.size (h : CC w0 g c A L d s b m CB x q w) : w0.heap.size + 2 ≤ w.heap.size := by have := h.r.lt; omega
theorem CC.put (hgr : Cells4 52 w w0.heap.size d s b m) (hrs : BoxC w (w0.heap.size + 1) zeroArr) (hkl : BoxC w CB (cArr x q)) (hk : w0.heap.size + 2 ≤ CB) (he : ∃ k, DE w0 g c A L k w) (hg : g < w0.heap.size)
    (j : Nat) (v : Value) (hv : (cArr x q).setIfInBounds j v = cArr x' q')
    (hp : w.ownsRow (w0.heap.size + 2) 3 1 (.slice q'.aP x'.pats.length q'.cP) x'.pats.length (intVals x'.pats)) (hf : S3.StrRow w (w0.heap.size + 2) (.slice q'.aF x'.feats.length q'.cF) x'.feats)
    (ht : w.ownsRow (w0.heap.size + 2) 127 2 (.slice q'.aT x'.starts.length q'.cT) x'.starts.length (startVals x'.starts)) (hst : x'.staff = [] ∧ q'.aS = none ∧ q'.cS = 0) :
    CC w0 g c A L d s b m CB x' q' (w.setCell ⟨CB, j, none⟩ v) := by
  obtain ⟨k, h0⟩ := he
  have hl := hgr.lt
  have hB : Below (w0.heap.size + 2) w (w.setCell ⟨CB, j, none⟩ v) := (Below.refl _ w).setCell (p := ⟨CB, j, none⟩) hk v
  refine ⟨(hB.block _ (by omega)).trans hgr, hrs.kept (hB.block _ (by omega)), ?_, hk, ⟨k, h0.set _ _ _ (by omega) (by omega)⟩, ownsRow_setCell_other hp (kind_ne hp hkl.h (by decide)) v, ownsRow_setCell_other hf (kind_ne hf hkl.h (by decide)) v, ownsRow_setCell_other ht (kind_ne ht hkl.h (by decide)) v, hst, hg⟩
  have := hkl.put j v
  rwa [hv] at this
theorem CC.store (h : CC w0 g c A L d s b m CB x q w) (j : Nat) (v : Value) (hv : (cArr x q).setIfInBounds j v = cArr x' q')
    (hp : w.ownsRow (w0.heap.size + 2) 3 1 (.slice q'.aP x'.pats.length q'.cP) x'.pats.length (intVals x'.pats)) (hf : S3.StrRow w (w0.heap.size + 2) (.slice q'.aF x'.feats.length q'.cF) x'.feats)
    (ht : w.ownsRow (w0.heap.size + 2) 127 2 (.slice q'.aT x'.starts.length q'.cT) x'.starts.length (startVals x'.starts)) (hst : x'.staff = [] ∧ q'.aS = none ∧ q'.cS = 0) :
    CC w0 g c A L d s b m CB x' q' (w.setCell ⟨CB, j, none⟩ v) := CC.put h.gr h.r h.k h.kb h.e h.g0 j v hv hp hf ht hst
theorem CC.grew {v : Value} (h : CC w0 g c A L d s b m CB x q w) (hg : w.grownBy w' v.ownBlock) (hb : ∀ k, v.ownBlock = some k → w0.heap.size + 2 ≤ k) (hk : v.ownBlock ≠ some CB) :
    Cells4 52 w' w0.heap.size d s b m ∧ BoxC w' (w0.heap.size + 1) zeroArr ∧ BoxC w' CB (cArr x q) ∧ ∃ k, DE w0 g c A L k w' := by
  obtain ⟨k, h0⟩ := h.e
  have hl := h.gr.lt
  have hB : Below (w0.heap.size + 2) w w' := (Below.refl _ w).grown hg (by have := h.r.lt; omega) hb
  exact ⟨(hB.block _ (by omega)).trans h.gr, h.r.kept (hB.block _ (by omega)), h.k.kept (hg.block _ h.k.lt (fun e => hk e.symm)), ⟨k, h0.below (hB.mono (by omega)) h.g0⟩⟩
theorem CC.appP {A' : Option Addr} {c' : Nat} {l' : List Int} (h : CC w0 g c A L d s b m CB x q w) (hg : w.grownBy w' (Value.slice q.aP x.pats.length q.cP).ownBlock)
    (hr : w'.ownsRow (w0.heap.size + 2) 3 1 (.slice A' l'.length c') l'.length (intVals l')) :
    CC w0 g c A L d s b m CB { x with pats := l' } { q with aP := A', cP := c' } (w'.setCell ⟨CB, 4, none⟩ (.slice A' l'.length c')) := by
  obtain ⟨h1, h2, h3, h4⟩ := h.grew hg (fun k hk => (World.ownsRow.lt h.p k hk).1) (kind_ne h.p h.k.h (by decide))
  exact CC.put h1 h2 h3 h.kb h4 h.g0 4 _ rfl hr (h.f.kept hg (kinds_ne h.f h.p (by decide))) (h.t.kept hg (kinds_ne h.t h.p (by decide))) h.st
theorem CC.appT {A' : Option Addr} {c' : Nat} {l' : List StartD} (h : CC w0 g c A L d s b m CB x q w) (hg : w.grownBy w' (Value.slice q.aT x.starts.length q.cT).ownBlock)
    (hr : w'.ownsRow (w0.heap.size + 2) 127 2 (.slice A' l'.length c') l'.length (startVals l')) :
    CC w0 g c A L d s b m CB { x with starts := l' } { q with aT := A', cT := c' } (w'.setCell ⟨CB, 8, none⟩ (.slice A' l'.length c')) := by
  obtain ⟨h1, h2, h3, h4⟩ := h.grew hg (fun k hk => (World.ownsRow.lt h.t k hk).1) (kind_ne h.t h.k.h (by decide))
  exact CC.put h1 h2 h3 h.kb h4 h.g0 8 _ rfl (h.p.kept hg (kinds_ne h.p h.t (by decide))) (h.f.kept hg (kinds_ne h.f h.t (by decide))) hr h.st
theorem sNew (w : World) (y t : Int) : ∀ (j : Nat) (u : Value), (startVals [(y, t)])[j]? = some u → (w.alloc (.cells #[.int .i64 y, .int .i64 t] 127)).cell? ((⟨w.heap.size, 0, none⟩ : Addr).add j) = some u := by
  intro j u hj
  rw [Addr.add_lit, Lib.cell_of_heap (heap_alloc_new w _)]
  match j, hj with
  | 0, hj => exact hj
  | 1, hj => exact hj
  | j + 2, hj => simp [startVals, startVs] at hj
structure SGC (w0 : World) (g c : Nat) (A : Option Addr) (L : List Int) (d s b m : Int) (CB : Nat) (x : ClassD) (q : ClassA) (SB : Option Nat) (w : World) : Prop where
  c : CC w0 g c A L d s b m CB x q w
  n : ∀ k, SB = some k → w0.heap.size + 2 ≤ k ∧ k ≠ CB ∧ (Value.slice q.aT x.starts.length q.cT).ownBlock ≠ some k ∧ ∃ u0 u1, w.heap[k]? = some (.cells #[u0, u1] 127 (0, 0))
theorem SGC.roll {SB : Option Nat} {k' : Nat} (h : SGC w0 g c A L d s b m CB x q SB w) (hd : DiceAt w' g A L c k') (hr : Rolled g w w') : SGC w0 g c A L d s b m CB x q SB w' := by
  have hg := h.c.g0
  exact ⟨h.c.roll hd hr, fun k e => by obtain ⟨h1, h2, h3, u0, u1, h4⟩ := h.n k e; exact ⟨h1, h2, h3, u0, u1, (hr.block k (by omega)).trans h4⟩⟩
theorem SGC.next {SB : Option Nat} (h : SGC w0 g c A L d s b m CB x q SB w) (k : Below w.heap.size w w') : SGC w0 g c A L d s b m CB x q SB w' :=
  ⟨h.c.next k, fun i e => by obtain ⟨h1, h2, h3, u0, u1, h4⟩ := h.n i e; exact ⟨h1, h2, h3, u0, u1, (k.block i (Array.getElem?_eq_some_iff.1 h4).1).trans h4⟩⟩
theorem SGC.dice {SB : Option Nat} (h : SGC w0 g c A L d s b m CB x q SB w) : ∃ k, DiceAt w g A L c k := h.c.dice
theorem SGC.newD' (h : SGC w0 g c A L d s b m CB x q none w) : ∃ k, k = w.heap.size ∧ SGC w0 g c A L d s b m CB x q (some k) (w.alloc (.cells #[.int .i64 0, .int .i64 0] 127)) := by
  have k := h.next ((Below.refl _ w).alloc (Nat.le_refl _) (.cells #[.int .i64 0, .int .i64 0] 127))
  refine ⟨_, rfl, k.c, fun i e => ?_⟩
  injection e with e
  subst e
  refine ⟨h.c.size, by have := h.c.k.lt; omega, fun e => by have := (World.ownsRow.lt h.c.t _ e).2; omega, _, _, heap_alloc_new w _⟩
theorem SGC.dropD {SB : Option Nat} (h : SGC w0 g c A L d s b m CB x q SB w) : SGC w0 g c A L d s b m CB x q none w := ⟨h.c, fun k e => (by cases e)⟩
theorem CC.other (h : CC w0 g c A L d s b m CB x q w) {k : Nat} (h1 : w0.heap.size + 2 ≤ k) (h2 : k ≠ CB) (h3 : (Value.slice q.aT x.starts.length q.cT).ownBlock ≠ some k) {a : Array Value} {fz : Nat × Nat} (h4 : w.heap[k]? = some (.cells a 127 fz)) (j : Nat) (v : Value) :
    CC w0 g c A L d s b m CB x q (w.setCell ⟨k, j, none⟩ v) := by
  obtain ⟨i, h0⟩ := h.e
  have hg := h.g0
  have hl := h.gr.lt
  have hB : Below (w0.heap.size + 2) w (w.setCell ⟨k, j, none⟩ v) := (Below.refl _ w).setCell (p := ⟨k, j, none⟩) h1 v
  exact ⟨(hB.block _ (by omega)).trans h.gr, h.r.kept (hB.block _ (by omega)), h.k.kept (Below.heap_setCell _ ⟨k, j, none⟩ _ CB (by show CB ≠ k; omega)), h.kb, ⟨i, h0.set _ _ _ (by omega) (by omega)⟩, ownsRow_setCell_other h.p (kind_ne h.p h4 (by decide)) v, ownsRow_setCell_other h.f (kind_ne h.f h4 (by decide)) v, ownsRow_setCell_other h.t h3 v, h.st, hg⟩
theorem SGC.stored {SB : Nat} (h : SGC w0 g c A L d s b m CB x q (some SB) w) (y u : Int) :
    SGC w0 g c A L d s b m CB x q (some SB) ((w.setCell ⟨SB, 0, none⟩ (.int .i64 y)).setCell ⟨SB, 1, none⟩ (.int .i64 u)) ∧ ((w.setCell ⟨SB, 0, none⟩ (.int .i64 y)).setCell ⟨SB, 1, none⟩ (.int .i64 u)).heap[SB]? = some (.cells #[.int .i64 y, .int .i64 u] 127 (0, 0)) := by
  obtain ⟨h1, h2, h3, u0, u1, h4⟩ := h.n SB rfl
  have c1 := h.c.other h1 h2 h3 h4 0 (.int .i64 y)
  have e1 : (w.setCell ⟨SB, 0, none⟩ (.int .i64 y)).heap[SB]? = some (.cells #[.int .i64 y, u1] 127 (0, 0)) := by rw [heap_setCell_same w SB 0 _ _ _ h4]; rfl
  have c2 := c1.other h1 h2 h3 e1 1 (.int .i64 u)
  have e2 : ((w.setCell ⟨SB, 0, none⟩ (.int .i64 y)).setCell ⟨SB, 1, none⟩ (.int .i64 u)).heap[SB]? = some (.cells #[.int .i64 y, .int .i64 u] 127 (0, 0)) := by rw [heap_setCell_same _ SB 1 _ _ _ e1]; rfl
  exact ⟨⟨c2, fun k e => by injection e with e; subst e; exact ⟨h1, h2, h3, _, _, e2⟩⟩, e2⟩
structure StartsP (d s len day : Int) (l : List StartD) : Prop where
  up : l.Pairwise (fun a b => a.1 < b.1)
  ok : ∀ t ∈ l, ((0 ≤ t.1 ∧ t.1 < d) ∧ 0 ≤ t.2 ∧ t.2 + len ≤ s) ∧ t.1 < day
theorem StartsP.app {len day y u : Int} {l : List StartD} (h : StartsP d s len day l) (hy : day ≤ y) (h0 : 0 ≤ y) (hd : y < d) (hu : 0 ≤ u ∧ u + len ≤ s) : StartsP d s len (y + 1) (l ++ [(y, u)]) := by
  refine ⟨List.pairwise_append.2 ⟨h.up, by simp, fun a ha e he => ?_⟩, fun t ht => ?_⟩
  · rw [List.mem_singleton] at he
    subst he
    have := (h.ok a ha).2
    show a.1 < y
    omega
  · rcases List.mem_append.1 ht with ht | ht
    · have := h.ok t ht
      exact ⟨this.1, by omega⟩
    · rw [List.mem_singleton] at ht
      subst ht
      exact ⟨⟨⟨h0, hd⟩, hu⟩, by show y < y + 1; omega⟩
theorem RG.stored {CB : Nat} {BA BB : Option Nat} (h : RG w0 g c A L d s b m BA BB (some CB) w) (v0 v1 v2 v3 v4 v5 v6 v7 v8 : Value) :
    RG w0 g c A L d s b m BA BB (some CB) (((((((((w.setCell ⟨CB, 0, none⟩ v0).setCell ⟨CB, 1, none⟩ v1).setCell ⟨CB, 2, none⟩ v2).setCell ⟨CB, 3, none⟩ v3).setCell ⟨CB, 4, none⟩ v4).setCell ⟨CB, 5, none⟩ v5).setCell ⟨CB, 6, none⟩ v6).setCell ⟨CB, 7, none⟩ v7).setCell ⟨CB, 8, none⟩ v8) := by
  obtain ⟨hk, u0, u1, u2, u3, u4, u5, u6, u7, u8, hn⟩ := h.n CB rfl
  obtain ⟨k, h0⟩ := h.e
  have hg := h.g0
  have hN := ((((((((hn.put 0 v0).put 1 v1).put 2 v2).put 3 v3).put 4 v4).put 5 v5).put 6 v6).put 7 v7).put 8 v8
  simp only [List.setIfInBounds_toArray, List.set_cons_zero, List.set_cons_succ] at hN
  have E := fun j (hj : j ≠ CB) => nine_else w CB j hj v0 v1 v2 v3 v4 v5 v6 v7 v8
  have hz := nine_size w CB v0 v1 v2 v3 v4 v5 v6 v7 v8
  have B := fun (W : World) (hW : DE w0 g c A L k W) (j : Nat) (v : Value) => hW.set CB j v (by omega) (by omega)
  have hD := B _ (B _ (B _ (B _ (B _ (B _ (B _ (B _ (B _ h0 0 v0) 1 v1) 2 v2) 3 v3) 4 v4) 5 v5) 6 v6) 7 v7) 8 v8
  generalize World.setCell _ _ _ = W at E hz hN hD ⊢
  refine ⟨(E w0.heap.size (by omega)).trans h.x, h.r.kept (E (w0.heap.size + 1) (by omega)), ⟨k, hD⟩, hg, fun i e => ?_, fun i e => ?_, fun i e => ?_, h.da, h.dp⟩
  · obtain ⟨h1, h2, h3⟩ := h.a i e
    exact ⟨h1, by rw [hz]; exact h2, fun j hj => (World.cell?_of_block (w := w) (E i (h.da i CB e rfl))).trans (h3 j hj)⟩
  · obtain ⟨h1, h2, h3⟩ := h.p i e
    exact ⟨h1, by rw [hz]; exact h2, fun j hj => (World.cell?_of_block (w := w) (E i (h.dp i CB e rfl))).trans (h3 j hj)⟩
  · injection e with e
    subst e
    exact ⟨hk, _, _, _, _, _, _, _, _, _, hN⟩
theorem RG.start {CB : Nat} {BA BB : Option Nat} (h : RG w0 g c A L d s b m BA BB (some CB) w) (code co pa : Str) (len : Int) :
    CC w0 g c A L d s b m CB ⟨code, co, pa, len, [], 0, [], [], []⟩ ⟨none, 0, none, 0, none, 0, none, 0⟩ (((((((((w.setCell ⟨CB, 0, none⟩ (.string (ba code))).setCell ⟨CB, 1, none⟩ (.string (ba co))).setCell ⟨CB, 2, none⟩ (.string (ba pa))).setCell ⟨CB, 3, none⟩ (.int .i64 len)).setCell ⟨CB, 4, none⟩ (.slice none 0 0)).setCell ⟨CB, 5, none⟩ (.int .i64 0)).setCell ⟨CB, 6, none⟩ (.slice none 0 0)).setCell ⟨CB, 7, none⟩ (.slice none 0 0)).setCell ⟨CB, 8, none⟩ (.slice none 0 0)) := by
  obtain ⟨hk, u0, u1, u2, u3, u4, u5, u6, u7, u8, hn⟩ := h.n CB rfl
  obtain ⟨k, h0⟩ := h.e
  have hg := h.g0
  have hl := h.x.lt
  have B := fun (W : World) (hW : Below (w0.heap.size + 2) w W) (j : Nat) (v : Value) => hW.setCell (p := ⟨CB, j, none⟩) hk v
  have hB := B _ (B _ (B _ (B _ (B _ (B _ (B _ (B _ (B _ (Below.refl _ w) 0 (.string (ba code))) 1 (.string (ba co))) 2 (.string (ba pa))) 3 (.int .i64 len)) 4 (.slice none 0 0)) 5 (.int .i64 0)) 6 (.slice none 0 0)) 7 (.slice none 0 0)) 8 (.slice none 0 0)
  have hN := ((((((((hn.put 0 (.string (ba code))).put 1 (.string (ba co))).put 2 (.string (ba pa))).put 3 (.int .i64 len)).put 4 (.slice none 0 0)).put 5 (.int .i64 0)).put 6 (.slice none 0 0)).put 7 (.slice none 0 0)).put 8 (.slice none 0 0)
  simp only [List.setIfInBounds_toArray, List.set_cons_zero, List.set_cons_succ] at hN
  exact ⟨(hB.block _ (by omega)).trans h.x, h.r.kept (hB.block _ (by omega)), hN, hk, ⟨k, h0.below (hB.mono (by omega)) hg⟩, World.ownsRow_nil _ _ _ _, World.ownsRow_nil _ _ _ _, World.ownsRow_nil _ _ _ _, ⟨rfl, rfl, rfl⟩, hg⟩
end
structure FeatAt (w : World) (FB fo fc : Nat) : Prop where
  c0 : w.cell? ⟨0, 0, none⟩ = some (.slice (some ⟨FB, fo, none⟩) 3 fc)
  cs : ∀ (j : Nat) (s : Str), featureS[j]? = some s → w.cell? ⟨FB, fo + j, none⟩ = some (.string (ba s))
theorem FeatAt.kept {w w' : World} {FB fo fc : Nat} (h : FeatAt w FB fo fc) (h1 : w'.heap[0]? = w.heap[0]?) (h2 : w'.heap[FB]? = w.heap[FB]?) : FeatAt w' FB fo fc :=
  ⟨(World.cell?_of_block (w := w) h1).trans h.c0, fun j s hj => (World.cell?_of_block (w := w) h2).trans (h.cs j s hj)⟩
theorem loadC {w : World} {k : Nat} {v0 v1 v2 v3 v4 v5 v6 v7 v8 : Value} (h : w.cell? ⟨k, 0, none⟩ = some v0 ∧ w.cell? ⟨k, 1, none⟩ = some v1 ∧ w.cell? ⟨k, 2, none⟩ = some v2 ∧ w.cell? ⟨k, 3, none⟩ = some v3 ∧ w.cell? ⟨k, 4, none⟩ = some v4 ∧ w.cell? ⟨k, 5, none⟩ = some v5 ∧ w.cell? ⟨k, 6, none⟩ = some v6 ∧ w.cell? ⟨k, 7, none⟩ = some v7 ∧ w.cell? ⟨k, 8, none⟩ = some v8) : (loadVar 95 ⟨k, 0, none⟩).run Tryz.prog w = .ok (.agg #[v0, v1, v2, v3, v4, v5, v6, v7, v8]) w := by
  obtain ⟨h0, h1, h2, h3, h4, h5, h6, h7, h8⟩ := h
  simp [loadVar, go_sem, h0, h1, h2, h3, h4, h5, h6, h7, h8]
section
variable {w0 w w' : World} {g c : Nat} {A : Option Addr} {L : List Int} {d s b m : Int} {CB : Nat} {x : ClassD} {q : ClassA}
theorem CC.classIn (h : CC w0 g c A L d s b m CB x q w) : ClassIn w (fun k => w0.heap.size + 2 ≤ k ∧ k < w.heap.size) x q := by
  obtain ⟨A1, c1, e1, l1, m1, f1⟩ := FlatIn.ofRow h.p (by simp [intVals])
  obtain ⟨A2, c2, e2, l2, m2, f2⟩ := S3.StrRow.strsIn h.f
  obtain ⟨A3, c3, e3, l3, m3, f3⟩ := FlatIn.ofRow h.t (startVals_len _)
  obtain ⟨s1, s2, s3⟩ := h.st
  injection e1 with e1 _ e1c
  injection e2 with e2 _ e2c
  injection e3 with e3 _ e3c
  subst e1 e2 e3 e1c e2c e3c
  exact ⟨f1, f2, by rw [s1]; exact .inl rfl, f3, l1, m1, l2, m2, by rw [s1]; exact Nat.zero_le _, by omega, l3, m3⟩
theorem CC.done (h : CC w0 g c A L d s b m CB x q w) : ∃ W, (((((((((w.setCell ⟨w0.heap.size + 1, 0, none⟩ (.string (ba x.code))).setCell ⟨w0.heap.size + 1, 1, none⟩ (.string (ba x.course))).setCell ⟨w0.heap.size + 1, 2, none⟩ (.string (ba x.part))).setCell ⟨w0.heap.size + 1, 3, none⟩ (.int .i64 x.len)).setCell ⟨w0.heap.size + 1, 4, none⟩ (.slice q.aP x.pats.length q.cP)).setCell ⟨w0.heap.size + 1, 5, none⟩ (.int .i64 x.seats)).setCell ⟨w0.heap.size + 1, 6, none⟩ (.slice q.aF x.feats.length q.cF)).setCell ⟨w0.heap.size + 1, 7, none⟩ (.slice q.aS x.staff.length q.cS)).setCell ⟨w0.heap.size + 1, 8, none⟩ (.slice q.aT x.starts.length q.cT)) = W ∧
    (loadVar 95 ⟨w0.heap.size + 1, 0, none⟩).run Tryz.prog W = .ok (.agg (cArr x q)) W ∧ ClassIn W (fun k => w0.heap.size ≤ k ∧ k < W.heap.size) x q ∧ ∃ k, DE w0 g c A L k W := by
  obtain ⟨k, h0⟩ := h.e
  have hg := h.g0
  have hN := ((((((((h.r.put 0 (.string (ba x.code))).put 1 (.string (ba x.course))).put 2 (.string (ba x.part))).put 3 (.int .i64 x.len)).put 4 (.slice q.aP x.pats.length q.cP)).put 5 (.int .i64 x.seats)).put 6 (.slice q.aF x.feats.length q.cF)).put 7 (.slice q.aS x.staff.length q.cS)).put 8 (.slice q.aT x.starts.length q.cT)
  unfold zeroArr at hN
  simp only [List.setIfInBounds_toArray, List.set_cons_zero, List.set_cons_succ] at hN
  refine ⟨_, rfl, loadC hN.cells, ?_, k, ?_⟩
  · exact (h.classIn.kept (fun j hj => nine_else w (w0.heap.size + 1) j (by have := hj.1; omega) _ _ _ _ _ _ _ _ _)).mono (fun j hj => ⟨by omega, by rw [nine_size]; exact hj.2⟩)
  · have B := fun (W : World) (hW : DE w0 g c A L k W) (j : Nat) (v : Value) => hW.set (w0.heap.size + 1) j v (by omega) (by omega)
    exact B _ (B _ (B _ (B _ (B _ (B _ (B _ (B _ (B _ h0 0 _) 1 _) 2 _) 3 _) 4 _) 5 _) 6 _) 7 _) 8 _
theorem CC.doneR (h : CC w0 g c A L d s b m CB x q w) : ∃ W, w.setRow (w0.heap.size + 1) (cArr x q) = W ∧
    (loadVar 95 ⟨w0.heap.size + 1, 0, none⟩).run Tryz.prog W = .ok (.agg (cArr x q)) W ∧ ClassIn W (fun k => w0.heap.size ≤ k ∧ k < W.heap.size) x q ∧ ∃ k, DE w0 g c A L k W := by
  obtain ⟨k, h0⟩ := h.e
  have hg := h.g0
  have hN : BoxC (w.setRow (w0.heap.size + 1) (cArr x q)) (w0.heap.size + 1) (cArr x q) := ⟨setRow_heap w _ _ _ _ _ h.r.h⟩
  unfold cArr at hN
  refine ⟨_, rfl, loadC hN.cells, ?_, k, h0.below (below_setRow (Below.refl _ w) (by omega) _) hg⟩
  exact (h.classIn.kept (fun j hj => setRow_other w _ j _ (by have := hj.1; omega))).mono (fun j hj => ⟨by omega, by rw [setRow_size]; exact hj.2⟩)
end
theorem cArr_one (x : ClassD) (q : ClassA) : (cArr x q).all (·.oneCell') = true := by simp [cArr, Value.oneCell']
def ClassP (d s : Int) (n : Nat) (code : Str) (g c : Nat) (A : Option Addr) (L : List Int) (w0 : World) (e : Ending) (w' : World) : Prop :=
  ∃ (x : ClassD) (q : ClassA) (k' : Nat), e = .returned (.agg (cArr x q)) ∧ ClassOk d s n [] code x ∧ ClassIn w' (fun k => w0.heap.size ≤ k ∧ k < w'.heap.size) x q ∧ DE w0 g c A L k' w'
end Go.Proofs.YtlgmanbilaminaaGreatDoor.S10
set_option maxRecDepth 100000
namespace Go.Proofs.YtlgmanbilaminaaGreatDoor.S12
open Go Go.Proofs Go.ChangeShapes Go.WideShapes Go.ChangeAt Go.RowKit Go.Deep Go.Proofs.YtlgmanbilaminaaGreatDoor Go.Proofs.YtlgmanbilaminaaGreatDoor.S10
theorem ba_ofL {T : ByteArray} {l : Str} (h : lst T = l) : T = ba l := by subst h; cases T; rfl
section
variable {H : Type} {enc : TypeId × Value → H} {P : Program}
theorem trodAll_stays (hl : laidOutB P = true) {W W' : World} (hb : Below W.heap.size W W') {sp : Nat → Bool} : ∀ {ts : List TypeId} {vs : List Value} {ds : List (DataW H)} {ps : List MemPlace},
    (∀ t ∈ ts, P.readableRec t = true ∧ t < P.types.size) → DataW.TrodAll enc P W 0 (fun _ => true) true ts vs ds ps → (∀ x ∈ ps, x.block < W.heap.size) → (∀ x ∈ ps, sp x.block = true) → DataW.TrodAll enc P W' 0 sp true ts vs ds ps
  | [], vs, ds, ps, _, h, _, _ => by
    obtain ⟨rfl, rfl, rfl⟩ := trodAll_nil h
    exact trodAll_mk0
  | t :: ts, vs, ds, ps, ht, h, hlt, hsp => by
    obtain ⟨v, vs', d, ds', p, q, rfl, rfl, rfl, h0, hr⟩ := trodAll_cons h
    have hp : ∀ x ∈ p, x.block < W.heap.size := fun x hx => hlt x (List.mem_append.2 (.inl hx))
    refine trodAll_cons_mk (WideElems.Trod_stays hl (ht t (by simp)).1 (ht t (by simp)).2 h0 (fun x hx => hb.same (hp x hx)) (fun x hx => hsp x (List.mem_append.2 (.inl hx)))) ?_
    exact trodAll_stays hl hb (fun t' h' => ht t' (by simp [h'])) hr (fun x hx => hlt x (List.mem_append.2 (.inr hx))) (fun x hx => hsp x (List.mem_append.2 (.inr hx)))
theorem law_post {f : Func} {s : ChangeSpec} {apart fresh again : Bool} {tb : TypeId} {W W' : World} {args : Array Value} {ds gs : List (DataW H)} {before : List MemPlace}
    (hl : laidOutB P = true) (hts : ∀ t ∈ f.params.toList, P.readableRec t = true ∧ t < P.types.size) (hres : f.resultTypes = #[tb]) (htb : P.underlying tb = some .bool)
    (hvars : s.vars = []) (hfn : s.fn H (ds ++ gs) = { results := [.lit (.bool true)], args := ds, vars := [] })
    (hW : DataW.Whole enc P f.params.toList s.vars apart W args.toList ds gs before) (hb : Below W.heap.size W W') :
    s.post enc P f apart fresh false again W args (.bool true) W' := by
  have hlt : ∀ p ∈ before, p.block < W.heap.size := fun p hp => hW.lt p hp
  have hW0 := hW
  obtain ⟨p, q, hA, hV, hpq, hz, hn⟩ := hW0
  rw [hvars] at hV
  obtain ⟨rfl, rfl⟩ := trodVars_none hV
  rw [List.append_nil] at hpq
  subst hpq
  have hr : ∀ (b : Nat) (sp : Nat → Bool) (hd : Bool), DataW.TrodAll enc P W' b sp hd f.resultTypes.toList ((Value.bool true).resultList f.resultTypes.size) (s.fn H (ds ++ [])).results [] := fun b sp hd => by
    rw [hres, hfn]
    exact trodAll_cons_mk (shut_bool htb true) trodAll_mk0
  have ha : ∀ sp : Nat → Bool, (∀ x ∈ before, sp x.block = true) → DataW.TrodAll enc P W' 0 sp true f.params.toList args.toList (s.fn H (ds ++ [])).args before := fun sp hsp => by
    rw [hfn]
    exact trodAll_stays hl hb hts hA hlt hsp
  have hold : ∀ x ∈ before, (fun b => decide (b < W.heap.size)) x.block = true := fun x hx => by simpa using hlt x hx
  have hvs : ∀ sp : Nat → Bool, DataW.TrodVars enc P W' sp s.vars (s.fn H (ds ++ [])).vars [] := fun sp => by
    rw [hvars, hfn]
    exact rfl
  refine ⟨ds, [], before, [], before, [], hW, hr _ _ _, ha _ hold, hvs _, World.keptBut_mono (fun x hx => ⟨hx, .inr (.inl hx)⟩) (hb.frame (· ∈ before)), fun _ => ?_⟩
  refine ⟨?_, _, _, ([] ++ before) ++ [], ⟨[] ++ before, [], trodAll_append (ha _ (fun _ _ => rfl)) (hr _ _ _), hvs _, rfl, ?_, ?_⟩, ?_⟩
  · intro j t r hj hr'
    rw [hres] at hj hr'
    match j, hj, hr' with
    | 0, hj, hr' =>
      simp at hj
      subst hj
      obtain rfl : (Value.bool true) = r := by simpa [Value.resultList] using hr'
      exact okWide_bool_mk htb true
    | j + 1, hj, _ => simp at hj
  · intro b off hp
    have hin : MemPlace.cell b off ∈ before := by simpa using hp
    rw [hb.frozen (hlt _ hin)]
    exact hz b off hin
  · intro h
    simpa using hn h
  · intro x hx _
    simpa using hx
end
theorem own : ownKnob Tryz.prog.godebug = none := by kernel_rfl
theorem laidOut : laidOutB Tryz.prog = true := by kernel_rfl
theorem rowInts : Tryz.prog.readableRec 44 = true ∧ 44 < Tryz.prog.types.size := ⟨by kernel_rfl, of_decide_eq_true (by kernel_rfl)⟩
theorem uErr : Tryz.prog.underlying 166 = some (.interface #[("Error", 169)]) := by kernel_rfl
theorem star : "*" ++ "errors.errorString" = "*errors.errorString" := by decide
theorem rowPtr (u : TypeId) (h : Tryz.prog.typeName? 3 u = some "*errors.errorString") : u = 240 :=
  typeName_ptr_named (nm := "errors.errorString") (by rw [star]; kernel_rfl) (by kernel_rfl) (by decide) u (by rw [star]; exact h)
theorem gSyn : Tryz.prog.globalNamed "strconv.ErrSyntax" = some 5 := by kernel_rfl
section
variable {H : Type} {enc : TypeId × Value → H} {w : World} {base : Nat} {sp : Nat → Bool} {held : Bool}
end
theorem errSyntax_ofL {W : World} {L : List (String × DataW Unit)} (hL : laidMet Tryz.prog (("strconv.ErrSyntax", Rows.laid_strconv_ErrSyntax) :: L) W) : ∃ ev, W.cell? ⟨5, 0, none⟩ = some ev ∧ (ev = .nilIface ∨ ∃ te pe, ev = .iface te pe) := by
  obtain ⟨a, s, hv, _⟩ := laid_sentinel hL gSyn (ti := 166) (tp := 240) (te := 242) (ts := 9) (f := { name := "s", type := 9, offset := 0, embedded := false, tag := "", pkgPath := "errors", byteOffset := 0 }) (ms := #[("Error", 169)]) (by kernel_rfl) uErr rowPtr (by kernel_rfl) (by kernel_rfl) rfl rfl (by kernel_rfl) (by kernel_rfl) (by kernel_rfl)
  exact ⟨_, World.var?_cell gSyn hv 0, .inr ⟨_, _, rfl⟩⟩
theorem maxLen_of {W : World} (h : W.ShapedOpen Tryz.prog) : ∃ m, W.cell? ⟨1, 0, none⟩ = some (.int .i64 m) :=
  cell_of_shapedOpen_int (t := 3) (zero := #[.int .i64 0]) h (of_decide_eq_true (by kernel_rfl)) (by kernel_rfl) rfl (by kernel_rfl) (by kernel_rfl) Tryz.underlying3
theorem env3_ofL {W : World} {L : List (String × DataW Unit)} (hL : laidMet Tryz.prog L W) (hm : ("internal/strconv.uint64pow10", (Rows.laid_internal_strconv_uint64pow10 : DataW Unit)) ∈ L) (hsh : W.ShapedOpen Tryz.prog) (he : ∃ ev, W.cell? ⟨5, 0, none⟩ = some ev ∧ (ev = .nilIface ∨ ∃ te pe, ev = .iface te pe)) : S3.Env W := by
  refine ⟨maxLen_of hsh, he, ?_, by obtain ⟨ev, h1, _⟩ := he; exact World.block_lt_of_cell? W _ h1⟩
  obtain ⟨g, t, cs, fuel, p, hg, hty, hvar, hd⟩ := Lib.laidMet.reads hL hm
  obtain rfl := Option.some.inj (S3.gTab.symm.trans hg)
  obtain rfl := Option.some.inj ((show (Tryz.prog.globals[2]?).map (·.type) = some 199 by kernel_rfl).symm.trans hty)
  have hcs := Lib.cells_of_tab (n := 20) (e := 150) (zs := Lib.pow10Tab) (k := .u64) (by kernel_rfl) (by kernel_rfl) (by kernel_rfl) (by kernel_rfl) hd
  unfold Lib.TabIs
  rw [hvar, ← hcs]
def featS : Nat → Str
  | 0 => [98, 101, 97, 109, 101, 114]
  | 1 => [108, 97, 98]
  | 2 => [112, 105, 97, 110, 111]
  | _ => []
theorem gFeatures : Tryz.prog.globalNamed "timetable/timetablemade.features" = some 0 := by kernel_rfl
theorem cells9f : Tryz.prog.cellsOf 9 = 1 := by kernel_rfl
def Features (W : World) : Prop := ∃ PB po pc, FeatAt W PB po pc ∧ PB < W.heap.size
theorem features_ofL {W : World} {L : List (String × DataW Unit)} (hL : laidMet Tryz.prog L W) (hm : ("timetable/timetablemade.features", (Rows.laid_timetable_timetablemade_features : DataW Unit)) ∈ L) : Features W := by
  obtain ⟨g, t, cs, fuel, p, hg, hty, hvar, hd⟩ := Lib.laidMet.reads hL hm
  obtain rfl := Option.some.inj (gFeatures.symm.trans hg)
  obtain rfl := Option.some.inj ((show (Tryz.prog.globals[0]?).map (·.type) = some 40 by kernel_rfl).symm.trans hty)
  rcases open_slice Tryz.underlying40 hd with ⟨_, h⟩ | ⟨a, len, cap, mm, n, D, Pl, hcs, _, hl, hmx, hmm, hx, hel⟩
  · injection h with h _
    unfold Rows.laid_timetable_timetablemade_features at h
    cases h
  · injection hx with hx _
    unfold Rows.laid_timetable_timetablemade_features at hx
    injection hx with h1 h2
    have hlen : len = 3 := by have := congrArg List.length h1; simpa using this.symm
    subst hlen
    have hm3 : 3 ≤ mm := by rw [hmm]; split <;> omega
    have hD : ∀ i, i < 3 → D i = .lit (.string (featS i)) := by
      intro i hi
      have h := congrArg (·[i]?) h1
      rcases (show i = 0 ∨ i = 1 ∨ i = 2 by omega) with rfl | rfl | rfl
      all_goals
        simp at h
        exact h.symm
    have hc : ∀ i, i < 3 → W.cell? (a.add i) = some (.string (ba (featS i))) := by
      intro i hi
      obtain ⟨cs', e1, e2⟩ := hel i (by omega)
      rw [cells9f, Nat.mul_one] at e1
      obtain ⟨s, rfl, e3, _⟩ := DataW.trod_string Tryz.underlying9 e2
      have h0 := (World.cells?_some e1).2.2 0 (by omega)
      have hs : s = ba (featS i) := by
        injection e3 with e3 _
        rw [hD i hi] at e3
        injection e3 with e3
        injection e3 with e3
        exact ba_ofL e3.symm
      subst hs
      obtain ⟨b, off, spot⟩ := a
      simpa [Addr.add] using h0
    obtain ⟨b, off, spot⟩ := a
    have hspot : spot = none := by simpa [Addr.add] using World.cell?_spot (hc 0 (by omega))
    subst hspot
    have hc' : ∀ i, i < 3 → W.cell? ⟨b, off + i, none⟩ = some (.string (ba (featS i))) := fun i hi => by rw [← Go.WideShapes.add_plain]; exact hc i hi
    refine ⟨b, off, cap, ⟨?_, fun j t hj => ?_⟩, World.block_lt_of_cell? W _ (hc' 0 (by omega))⟩
    rotate_left
    · have hj3 : j < 3 := (List.getElem?_eq_some_iff.1 hj).1
      have e : t = featS j := by
        rcases (show j = 0 ∨ j = 1 ∨ j = 2 by omega) with rfl | rfl | rfl <;> exact (Option.some.inj hj).symm
      rw [e]
      exact hc' j hj3
    rw [World.var?_cell gFeatures hvar 0, ← Array.getElem?_toList, hcs]
    rfl
def cellsOfAgg : DataW Unit → Array Value
  | .agg l => (l.map fun | .lit (.int k z) => Value.int k z | _ => undef).toArray
  | _ => #[]
def acceptCells : Array Value := ((List.range 16).flatMap fun i => [Value.int .u8 (Lib.accLo i), Value.int .u8 (Lib.accHi i)]).toArray
def firstCells : Array Value := ((List.range 256).map fun b => Value.int .u8 (Lib.firstT b)).toArray
noncomputable def laidWorld (os : Os) : World :=
  let N := (World.settled Tryz.prog os).heap.size
  let w0 := World.holding Tryz.prog os ⟨#[.cells #[.string ⟨#[105, 110, 118, 97, 108, 105, 100, 32, 115, 121, 110, 116, 97, 120]⟩] 242, .cells #[.string ⟨#[118, 97, 108, 117, 101, 32, 111, 117, 116, 32, 111, 102, 32, 114, 97, 110, 103, 101]⟩] 242, .cells #[.string ⟨#[98, 101, 97, 109, 101, 114]⟩, .string ⟨#[108, 97, 98]⟩, .string ⟨#[112, 105, 97, 110, 111]⟩] 9], #[], []⟩
  let put (h : Array Obj) (g : Nat) (cs : Array Value) : Array Obj := h.modify g fun
    | .cells _ t frozen => .cells cs t frozen
    | o => o
  let h3 := put (put (put (put (put (put (put (put (w0.heap) 7 firstCells) 8 acceptCells) 5 #[.iface 240 (.pointer (some ⟨N, 0, none⟩))]) 6 #[.iface 240 (.pointer (some ⟨N + 1, 0, none⟩))]) 2 (cellsOfAgg Rows.laid_internal_strconv_uint64pow10)) 3 (cellsOfAgg Rows.laid_math_bits_deBruijn32tab)) 4 (cellsOfAgg Rows.laid_math_bits_deBruijn64tab)) 0 #[.slice (some ⟨N + 2, 0, none⟩) 3 3]
  { w0 with heap := h3 }
end Go.Proofs.YtlgmanbilaminaaGreatDoor.S12
namespace Go.Proofs.YtlgmanbilaminaaGreatDoor.S12
open Go Go.Proofs Go.RowKit Go.Lib Go.Proofs.YtlgmanbilaminaaGreatDoor
structure ReqD where
  s : Str
  c : Str
  p : Int
  l : List Str
abbrev ReqA := Option Addr × Nat
def reqVs (x : ReqD) (q : ReqA) : List Value := [.string (ba x.s), .string (ba x.c), .int .i64 x.p, .slice q.1 x.l.length q.2]
def reqV (x : ReqD) (q : ReqA) : Value := .agg #[.string (ba x.s), .string (ba x.c), .int .i64 x.p, .slice q.1 x.l.length q.2]
structure ReqIn (w : World) (P : Nat → Prop) (x : ReqD) (q : ReqA) : Prop where
  t : S3.StrsIn w P q.1 x.l
  t1 : x.l.length ≤ q.2
  t2 : q.2 ≤ 9223372036854775807
theorem ReqIn.kept {w w' : World} {P : Nat → Prop} {x : ReqD} {q : ReqA} (h : ReqIn w P x q) (hk : ∀ b, P b → w'.heap[b]? = w.heap[b]?) : ReqIn w' P x q := ⟨h.t.kept hk, h.t1, h.t2⟩
theorem ReqIn.mono {w : World} {P P' : Nat → Prop} {x : ReqD} {q : ReqA} (h : ReqIn w P x q) (hP : ∀ b, P b → P' b) : ReqIn w P' x q := ⟨h.t.mono hP, h.t1, h.t2⟩
theorem ReqIn.below {w w' : World} {B : Nat} {x : ReqD} {q : ReqA} (h : ReqIn w (fun b => b < B) x q) (hb : Below B w w') : ReqIn w' (fun b => b < B) x q := h.kept fun b hB => hb.block b hB
def ReqsIn (w : World) (P : Nat → Prop) (A : Option Addr) (l : List ReqD) : Prop :=
  l = [] ∨ ∃ b off, A = some ⟨b, off, none⟩ ∧ P b ∧ ∀ (j : Nat) (x : ReqD), l[j]? = some x → ∃ q, ReqIn w P x q ∧ ∀ (i : Nat) (v : Value), (reqVs x q)[i]? = some v → w.cell? ⟨b, off + j * 4 + i, none⟩ = some v
theorem ReqsIn.kept {w w' : World} {P : Nat → Prop} {A : Option Addr} {l : List ReqD} (h : ReqsIn w P A l) (hk : ∀ b, P b → w'.heap[b]? = w.heap[b]?) : ReqsIn w' P A l := by
  rcases h with h | ⟨b, off, hA, hP, hc⟩
  · exact .inl h
  · refine .inr ⟨b, off, hA, hP, fun j r hj => ?_⟩
    obtain ⟨q, h1, h2⟩ := hc j r hj
    exact ⟨q, h1.kept hk, fun i v hv => (World.cell?_of_block (w := w) (hk b hP)).trans (h2 i v hv)⟩
theorem ReqsIn.mono {w : World} {P P' : Nat → Prop} {A : Option Addr} {l : List ReqD} (h : ReqsIn w P A l) (hP : ∀ b, P b → P' b) : ReqsIn w P' A l := by
  rcases h with h | ⟨b, off, hA, hb, hc⟩
  · exact .inl h
  · refine .inr ⟨b, off, hA, hP b hb, fun j r hj => ?_⟩
    obtain ⟨q, h1, h2⟩ := hc j r hj
    exact ⟨q, h1.mono hP, h2⟩
theorem ReqsIn.below {w w' : World} {B : Nat} {A : Option Addr} {l : List ReqD} (h : ReqsIn w (fun b => b < B) A l) (hb : Below B w w') : ReqsIn w' (fun b => b < B) A l := h.kept fun b hB => hb.block b hB
theorem ReqsIn.at_ {w : World} {P : Nat → Prop} {A : Option Addr} {l : List ReqD} (h : ReqsIn w P A l) {k : Nat} (hk : k < l.length) :
    ∃ b off q, A = some ⟨b, off, none⟩ ∧ P b ∧ ReqIn w P l[k] q ∧ w.cell? ⟨b, off + k * 4, none⟩ = some (.string (ba l[k].s)) ∧ w.cell? ⟨b, off + k * 4 + 1, none⟩ = some (.string (ba l[k].c)) ∧ w.cell? ⟨b, off + k * 4 + 2, none⟩ = some (.int .i64 l[k].p) ∧ w.cell? ⟨b, off + k * 4 + 3, none⟩ = some (.slice q.1 l[k].l.length q.2) := by
  rcases h with h | ⟨b, off, hA, hP, hc⟩
  · subst h; simp at hk
  · obtain ⟨q, h1, h2⟩ := hc k _ (List.getElem?_eq_getElem hk)
    exact ⟨b, off, q, hA, hP, h1, h2 0 _ rfl, h2 1 _ rfl, h2 2 _ rfl, h2 3 _ rfl⟩
structure Box4 (w : World) (B : Nat) (v0 v1 v2 v3 : Value) : Prop where
  h : w.heap[B]? = some (.cells #[v0, v1, v2, v3] 61 (0, 0))
theorem Box4.new (w : World) (v0 v1 v2 v3 : Value) : Box4 (w.alloc (.cells #[v0, v1, v2, v3] 61)) w.heap.size v0 v1 v2 v3 := ⟨heap_alloc_new w _⟩
theorem Box4.lt {w : World} {B : Nat} {v0 v1 v2 v3 : Value} (h : Box4 w B v0 v1 v2 v3) : B < w.heap.size := (Array.getElem?_eq_some_iff.1 h.h).1
theorem Box4.kept {w w' : World} {B : Nat} {v0 v1 v2 v3 : Value} (h : Box4 w B v0 v1 v2 v3) (hk : w'.heap[B]? = w.heap[B]?) : Box4 w' B v0 v1 v2 v3 := ⟨hk.trans h.h⟩
theorem Box4.below {w w' : World} {B C : Nat} {v0 v1 v2 v3 : Value} (h : Box4 w B v0 v1 v2 v3) (hb : Below C w w') (hC : B < C) : Box4 w' B v0 v1 v2 v3 := h.kept (hb.block B hC)
theorem Box4.next {w w' : World} {B : Nat} {v0 v1 v2 v3 : Value} (h : Box4 w B v0 v1 v2 v3) (hb : Below w.heap.size w w') : Box4 w' B v0 v1 v2 v3 := h.below hb h.lt
theorem Box4.cells {w : World} {B : Nat} {v0 v1 v2 v3 : Value} (h : Box4 w B v0 v1 v2 v3) : w.cell? ⟨B, 0, none⟩ = some v0 ∧ w.cell? ⟨B, 1, none⟩ = some v1 ∧ w.cell? ⟨B, 2, none⟩ = some v2 ∧ w.cell? ⟨B, 3, none⟩ = some v3 := by
  refine ⟨?_, ?_, ?_, ?_⟩ <;> (rw [Lib.cell_of_heap h.h]; rfl)
theorem Box4.free {w : World} {B : Nat} {v0 v1 v2 v3 : Value} (h : Box4 w B v0 v1 v2 v3) (j : Nat) : w.frozen? ⟨B, j, none⟩ = false := by simp [World.frozen?, h.h]
structure Box1 (w : World) (B : Nat) (T : TypeId) (v : Value) : Prop where
  h : w.heap[B]? = some (.cells #[v] T (0, 0))
theorem Box1.new (w : World) (T : TypeId) (v : Value) : Box1 (w.alloc (.cells #[v] T)) w.heap.size T v := ⟨heap_alloc_new w _⟩
theorem Box1.lt {w : World} {B : Nat} {T : TypeId} {v : Value} (h : Box1 w B T v) : B < w.heap.size := (Array.getElem?_eq_some_iff.1 h.h).1
theorem Box1.kept {w w' : World} {B : Nat} {T : TypeId} {v : Value} (h : Box1 w B T v) (hk : w'.heap[B]? = w.heap[B]?) : Box1 w' B T v := ⟨hk.trans h.h⟩
theorem Box1.below {w w' : World} {B C : Nat} {T : TypeId} {v : Value} (h : Box1 w B T v) (hb : Below C w w') (hC : B < C) : Box1 w' B T v := h.kept (hb.block B hC)
theorem Box1.next {w w' : World} {B : Nat} {T : TypeId} {v : Value} (h : Box1 w B T v) (hb : Below w.heap.size w w') : Box1 w' B T v := h.below hb h.lt
theorem Box1.cell {w : World} {B : Nat} {T : TypeId} {v : Value} (h : Box1 w B T v) : w.cell? ⟨B, 0, none⟩ = some v := by
  rw [Lib.cell_of_heap h.h]; rfl
theorem infoReq : (Tryz.prog.info? 61).map (fun i => (i.zero, i.size, i.bytes)) = some (some (.agg #[.string ⟨#[]⟩, .string ⟨#[]⟩, .int .i64 0, .slice none 0 0]), 4, 64) := by kernel_rfl
def reqVals (l : List (ReqD × ReqA)) : List Value := l.flatMap fun p => reqVs p.1 p.2
theorem reqVals_app (a b : List (ReqD × ReqA)) : reqVals (a ++ b) = reqVals a ++ reqVals b := by simp [reqVals]
theorem reqVals_len : ∀ l : List (ReqD × ReqA), (reqVals l).length = l.length * 4
  | [] => rfl
  | t :: r => by
    have := reqVals_len r
    unfold reqVals at this ⊢
    rw [List.flatMap_cons, List.length_append, this, List.length_cons]
    show 4 + _ = _
    omega
theorem reqVals_get : ∀ (l : List (ReqD × ReqA)) (j : Nat) (t : ReqD × ReqA), l[j]? = some t → ∀ (i : Nat) (v : Value), (reqVs t.1 t.2)[i]? = some v → (reqVals l)[j * 4 + i]? = some v
  | [], j, t, h, _, _, _ => by simp at h
  | a :: r, 0, t, h, i, v, hv => by
    simp at h
    subst h
    have hi : i < 4 := (List.getElem?_eq_some_iff.1 hv).1
    unfold reqVals
    rw [List.flatMap_cons, List.getElem?_append_left (by show _ < 4; omega)]
    simpa using hv
  | a :: r, j + 1, t, h, i, v, hv => by
    have := reqVals_get r j t (by simpa using h) i v hv
    unfold reqVals at this ⊢
    rw [List.flatMap_cons, List.getElem?_append_right (by show 4 ≤ _; omega)]
    show (List.flatMap _ r)[(j + 1) * 4 + i - 4]? = _
    rw [show (j + 1) * 4 + i - 4 = j * 4 + i by omega]
    exact this
theorem reqVals_one : ∀ (l : List (ReqD × ReqA)), ∀ u ∈ reqVals l, u.oneCell' = true := by
  intro l u hu
  obtain ⟨t, _, h⟩ := List.mem_flatMap.1 hu
  simp [reqVs] at h
  rcases h with rfl | rfl | rfl | rfl <;> rfl
theorem req_one (r : ReqD) (q : ReqA) : ∀ u ∈ reqVs r q, u.oneCell' = true := by
  intro u hu
  simp [reqVs] at hu
  rcases hu with rfl | rfl | rfl | rfl <;> rfl
def ReqRow (w : World) (B : Nat) (P : Nat → Prop) (v : Value) (l : List ReqD) : Prop := ∃ L : List (ReqD × ReqA), L.map (·.1) = l ∧ w.ownsRow B 61 4 v l.length (reqVals L) ∧ ∀ p ∈ L, ReqIn w P p.1 p.2
theorem ReqRow.reqsIn {w : World} {B : Nat} {P : Nat → Prop} {v : Value} {l : List ReqD} (h : ReqRow w B P v l) : ∃ A c, v = .slice A l.length c ∧ l.length ≤ c ∧ c ≤ 9223372036854775807 ∧ ReqsIn w (fun b => P b ∨ (B ≤ b ∧ b < w.heap.size)) A l := by
  obtain ⟨L, rfl, h, hL⟩ := h
  have h' := h
  rcases h.2 with ⟨hv, h0⟩ | ⟨g, cap, cur, hv, hB, hg, h1, h2, _⟩
  · have hl : L.map (·.1) = [] := List.eq_nil_of_length_eq_zero h0
    rw [hl]
    exact ⟨none, 0, by rw [hv]; rfl, Nat.le_refl _, by omega, .inl rfl⟩
  · refine ⟨_, cap, hv, h1, by unfold maxLen at h2; omega, .inr ⟨g, 0, rfl, .inr ⟨hB, (Array.getElem?_eq_some_iff.1 hg).1⟩, fun j r hj => ?_⟩⟩
    rw [List.getElem?_map] at hj
    obtain ⟨p, hp, rfl⟩ := Option.map_eq_some_iff.1 hj
    refine ⟨p.2, (hL p (List.mem_of_getElem? hp)).mono (fun b hb => .inl hb), fun i v' hv' => ?_⟩
    have := World.ownsRow.cells h' (g := g) (by rw [hv]; rfl) (j * 4 + i) v' (reqVals_get L j p hp i v' hv')
    rw [Addr.add_lit] at this
    rw [← Nat.add_assoc] at this
    exact this
theorem four_newR (w : World) (r : ReqD) (q : ReqA) : ∀ (j : Nat) (u : Value), (reqVs r q)[j]? = some u → (w.alloc (.cells #[.string (ba r.s), .string (ba r.c), .int .i64 r.p, .slice q.1 r.l.length q.2] 61)).cell? ((⟨w.heap.size, 0, none⟩ : Addr).add j) = some u := by
  intro j u h
  obtain ⟨k0, k1, k2, k3⟩ := (Box4.new w (.string (ba r.s)) (.string (ba r.c)) (.int .i64 r.p) (.slice q.1 r.l.length q.2)).cells
  rw [Addr.add_lit]
  match j, h with
  | 0, h => exact k0.trans h
  | 1, h => exact k1.trans h
  | 2, h => exact k2.trans h
  | 3, h => exact k3.trans h
  | j + 4, h => simp [reqVs] at h
end Go.Proofs.YtlgmanbilaminaaGreatDoor.S12
