/-
  What holds while two made times are laid down: the dice, the grid's block, the blocks of the times. No program beyond the types' facts.
-/
import Derived.Test.YtaijbdknaeeoeaaDoorM2
import Derived.Test.YtaijbdknaeeoeaaDoorM3
import Derived.Test.YtaijbdknaeeoeaaDoorTReturnsWalk
set_option linter.unusedVariables false
namespace Go.Proofs.YtaijbdknaeeoeaaDoor
open Go Go.Proofs Go.RowKit Go.Lib

abbrev Q4 := Int × Int × Int × Int
def TimeIs (w : World) (o : Option (Nat × Q4)) (lo : Nat) : Prop := ∀ t k y u l, o = some (t, k, y, u, l) → Cells4 46 w t k y u l ∧ lo ≤ t
structure RS (w1 : World) (g c : Nat) (A : Option Addr) (L : List Int) (tg : Nat) (d s b m : Int) (oa ob : Option (Nat × Q4)) (w : World) : Prop where
  e : ∃ k, DE w1 g c A L k w
  x : Cells4 44 w tg d s b m
  a : TimeIs w oa w1.heap.size
  b : TimeIs w ob w1.heap.size
  ne : ∀ ta qa tb qb, oa = some (ta, qa) → ob = some (tb, qb) → ta ≠ tb
  na : ∀ ta qa, oa = some (ta, qa) → ta ≠ tg
  nb : ∀ tb qb, ob = some (tb, qb) → tb ≠ tg
  gl : g < w1.heap.size
  tl : w1.heap.size ≤ tg
section
variable {w1 w w' : World} {g c : Nat} {A : Option Addr} {L : List Int} {tg : Nat} {d s b m : Int} {oa ob : Option (Nat × Q4)}
theorem RS.de {k : Nat} (h : RS w1 g c A L tg d s b m oa ob w) (he : DE w g c A L k w') : RS w1 g c A L tg d s b m oa ob w' := by
  obtain ⟨k0, h0⟩ := h.e
  have hg := h.gl
  have ht := h.tl
  exact ⟨⟨k, h0.trans he⟩, h.x.played he.p (by omega), fun t k y u l ho => ⟨(h.a t k y u l ho).1.played he.p (by have := (h.a t k y u l ho).2; omega), (h.a t k y u l ho).2⟩,
    fun t k y u l ho => ⟨(h.b t k y u l ho).1.played he.p (by have := (h.b t k y u l ho).2; omega), (h.b t k y u l ho).2⟩, h.ne, h.na, h.nb, h.gl, h.tl⟩
theorem RS.roll (h : RS w1 g c A L tg d s b m oa ob w) (hd : ∃ k, DiceAt w' g A L c k) (hr : Rolled g w w') : RS w1 g c A L tg d s b m oa ob w' := by
  obtain ⟨k, hd⟩ := hd
  obtain ⟨k0, h0⟩ := h.e
  exact h.de ((DE.first h0.d).next hd hr)
theorem RS.below (h : RS w1 g c A L tg d s b m oa ob w) (hb : Below w.heap.size w w') : RS w1 g c A L tg d s b m oa ob w' := by
  obtain ⟨k0, h0⟩ := h.e
  exact h.de ((DE.first h0.d).below hb (h0.d.lt))
theorem RS.drew (h : RS w1 g c A L tg d s b m oa ob w) : RS w1 g c A L tg d s b m oa ob w.drew := h.below (Below.refl _ w).drew
theorem RS.allocA (h : RS w1 g c A L tg d s b m none ob w) (k y u l : Int) : RS w1 g c A L tg d s b m (some (w.heap.size, k, y, u, l)) ob (w.alloc (.cells #[.int .i64 k, .int .i64 y, .int .i64 u, .int .i64 l] 46)) := by
  have h' := h.below ((Below.refl _ w).alloc (Nat.le_refl _) (.cells #[.int .i64 k, .int .i64 y, .int .i64 u, .int .i64 l] 46))
  obtain ⟨k0, h0⟩ := h.e
  refine ⟨h'.e, h'.x, ?_, h'.b, ?_, ?_, h'.nb, h'.gl, h'.tl⟩
  · intro t k2 y2 u2 l2 ho
    injection ho with ho
    injection ho with h1 ho
    injection ho with h2 ho
    injection ho with h3 ho
    injection ho with h4 h5
    subst h1 h2 h3 h4 h5
    exact ⟨Cells4.new w k y u l _, h0.p.size⟩
  · intro ta qa tb qb ho ho2
    injection ho with ho
    injection ho with h1 ho
    obtain ⟨b1, b2, b3, b4⟩ := qb
    have := (h.b _ _ _ _ _ ho2).1.lt
    omega
  · intro ta qa ho
    injection ho with ho
    injection ho with h1 ho
    have := h.x.lt
    omega
theorem RS.allocB (h : RS w1 g c A L tg d s b m oa none w) (k y u l : Int) : RS w1 g c A L tg d s b m oa (some (w.heap.size, k, y, u, l)) (w.alloc (.cells #[.int .i64 k, .int .i64 y, .int .i64 u, .int .i64 l] 46)) := by
  have h' := h.below ((Below.refl _ w).alloc (Nat.le_refl _) (.cells #[.int .i64 k, .int .i64 y, .int .i64 u, .int .i64 l] 46))
  obtain ⟨k0, h0⟩ := h.e
  refine ⟨h'.e, h'.x, h'.a, ?_, ?_, h'.na, ?_, h'.gl, h'.tl⟩
  · intro t k2 y2 u2 l2 ho
    injection ho with ho
    injection ho with h1 ho
    injection ho with h2 ho
    injection ho with h3 ho
    injection ho with h4 h5
    subst h1 h2 h3 h4 h5
    exact ⟨Cells4.new w k y u l _, h0.p.size⟩
  · intro ta qa tb qb ho2 ho
    injection ho with ho
    injection ho with h1 ho
    obtain ⟨b1, b2, b3, b4⟩ := qa
    have := (h.a _ _ _ _ _ ho2).1.lt
    omega
  · intro ta qa ho
    injection ho with ho
    injection ho with h1 ho
    have := h.x.lt
    omega
end
/-- Four stores into a block. -/
def put4 (w : World) (t : Nat) (v0 v1 v2 v3 : Int) : World := (((w.setCell ⟨t, 0, none⟩ (.int .i64 v0)).setCell ⟨t, 1, none⟩ (.int .i64 v1)).setCell ⟨t, 2, none⟩ (.int .i64 v2)).setCell ⟨t, 3, none⟩ (.int .i64 v3)
theorem put4_other {T : TypeId} {w : World} {B t : Nat} {a b x d : Int} (h : Cells4 T w B a b x d) (hB : B ≠ t) (v0 v1 v2 v3 : Int) : Cells4 T (put4 w t v0 v1 v2 v3) B a b x d :=
  (((h.other t 0 _ hB).other t 1 _ hB).other t 2 _ hB).other t 3 _ hB
theorem put4_de {w0 w : World} {g c k t : Nat} {A : Option Addr} {L : List Int} (h : DE w0 g c A L k w) (ht : w0.heap.size ≤ t) (hg : g < t) (v0 v1 v2 v3 : Int) : DE w0 g c A L k (put4 w t v0 v1 v2 v3) :=
  (((h.set t 0 _ ht hg).set t 1 _ ht hg).set t 2 _ ht hg).set t 3 _ ht hg
section
variable {w1 w w' : World} {g c : Nat} {A : Option Addr} {L : List Int} {tg ta tb : Nat} {d s b m k y u l k' y' u' l' : Int} {oa ob : Option (Nat × Q4)}
theorem some4 {t : Nat} {k y u l : Int} {t2 : Nat} {k2 y2 u2 l2 : Int} (h : (some (t, k, y, u, l) : Option (Nat × Q4)) = some (t2, k2, y2, u2, l2)) : t = t2 ∧ k = k2 ∧ y = y2 ∧ u = u2 ∧ l = l2 := by
  injection h with ho
  injection ho with h1 ho
  injection ho with h2 ho
  injection ho with h3 ho
  injection ho with h4 h5
  exact ⟨h1, h2, h3, h4, h5⟩
theorem RS.setA (h : RS w1 g c A L tg d s b m (some (ta, k, y, u, l)) ob w) (v0 v1 v2 v3 : Int) : RS w1 g c A L tg d s b m (some (ta, v0, v1, v2, v3)) ob (put4 w ta v0 v1 v2 v3) := by
  obtain ⟨k0, h0⟩ := h.e
  obtain ⟨ha, hla⟩ := h.a _ _ _ _ _ rfl
  have hg := h.gl
  refine ⟨⟨k0, put4_de h0 hla (by omega) _ _ _ _⟩, put4_other h.x (fun e => h.na _ _ rfl e.symm) _ _ _ _, ?_, ?_, ?_, ?_, h.nb, h.gl, h.tl⟩
  · intro t k2 y2 u2 l2 ho
    obtain ⟨rfl, rfl, rfl, rfl, rfl⟩ := some4 ho
    exact ⟨ha.all _ _ _ _, hla⟩
  · intro t k2 y2 u2 l2 ho
    obtain ⟨hb, hlb⟩ := h.b _ _ _ _ _ ho
    exact ⟨put4_other hb (fun e => h.ne _ _ _ _ rfl ho e.symm) _ _ _ _, hlb⟩
  · intro t qa t2 qb ho ho2
    injection ho with ho
    injection ho with h1 _
    subst h1
    exact h.ne _ _ _ _ rfl ho2
  · intro t qa ho
    injection ho with ho
    injection ho with h1 _
    subst h1
    exact h.na _ _ rfl
theorem RS.setB (h : RS w1 g c A L tg d s b m oa (some (tb, k, y, u, l)) w) (v0 v1 v2 v3 : Int) : RS w1 g c A L tg d s b m oa (some (tb, v0, v1, v2, v3)) (put4 w tb v0 v1 v2 v3) := by
  obtain ⟨k0, h0⟩ := h.e
  obtain ⟨hb, hlb⟩ := h.b _ _ _ _ _ rfl
  have hg := h.gl
  refine ⟨⟨k0, put4_de h0 hlb (by omega) _ _ _ _⟩, put4_other h.x (fun e => h.nb _ _ rfl e.symm) _ _ _ _, ?_, ?_, ?_, h.na, ?_, h.gl, h.tl⟩
  · intro t k2 y2 u2 l2 ho
    obtain ⟨ha, hla⟩ := h.a _ _ _ _ _ ho
    exact ⟨put4_other ha (fun e => h.ne _ _ _ _ ho rfl e) _ _ _ _, hla⟩
  · intro t k2 y2 u2 l2 ho
    obtain ⟨rfl, rfl, rfl, rfl, rfl⟩ := some4 ho
    exact ⟨hb.all _ _ _ _, hlb⟩
  · intro t qa t2 qb ho2 ho
    injection ho with ho
    injection ho with h1 _
    subst h1
    exact h.ne _ _ _ _ ho2 rfl
  · intro t qa ho
    injection ho with ho
    injection ho with h1 _
    subst h1
    exact h.nb _ _ rfl
theorem RS.setG (h : RS w1 g c A L tg d s b m oa ob w) (v0 v1 v2 v3 : Int) : RS w1 g c A L tg v0 v1 v2 v3 oa ob (put4 w tg v0 v1 v2 v3) := by
  obtain ⟨k0, h0⟩ := h.e
  have hg := h.gl
  have ht := h.tl
  refine ⟨⟨k0, put4_de h0 ht (by omega) _ _ _ _⟩, h.x.all _ _ _ _, ?_, ?_, h.ne, h.na, h.nb, h.gl, h.tl⟩
  · intro t k2 y2 u2 l2 ho
    obtain ⟨ha, hla⟩ := h.a _ _ _ _ _ ho
    exact ⟨put4_other ha (h.na _ _ ho) _ _ _ _, hla⟩
  · intro t k2 y2 u2 l2 ho
    obtain ⟨hb, hlb⟩ := h.b _ _ _ _ _ ho
    exact ⟨put4_other hb (h.nb _ _ ho) _ _ _ _, hlb⟩
end
end Go.Proofs.YtaijbdknaeeoeaaDoor
