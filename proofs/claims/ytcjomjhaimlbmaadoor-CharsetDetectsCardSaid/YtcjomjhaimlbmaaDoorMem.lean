/-
  Small facts on memory, without any program: bytes that a slice holds, the cells of a list of damage, what stays when a builder or a list grows. No conditions.
-/
import Derived.Test.YtcjomjhaimlbmaaDoorMath
import Derived.WalkKit
import Derived.WalkSpells
import Derived.WalkLawsBesides
import Derived.Lib.OthersKept
import Derived.Lib.RuneBytes
set_option linter.unusedVariables false
namespace Go.Proofs.YtcjomjhaimlbmaaDoor
open Go Go.Proofs Go.RowKit Go.Lib

/-- The slice at A holds the bytes l, in blocks below B. -/
def BIn (w : World) (B : Nat) (A : Option Addr) (l : List UInt8) : Prop :=
  l = [] ∨ ∃ b off, A = some ⟨b, off, none⟩ ∧ b < B ∧ ∀ (j : Nat) (u : UInt8), l[j]? = some u → w.cell? ⟨b, off + j, none⟩ = some (.int .u8 (u.toNat : Int))

theorem BIn.below {w w' : World} {B : Nat} {A : Option Addr} {l : List UInt8} (h : BIn w B A l) (hb : Below B w w') : BIn w' B A l := by
  rcases h with h | ⟨b, off, hA, hlt, hc⟩
  · exact .inl h
  · exact .inr ⟨b, off, hA, hlt, fun j u hu => (hb.cell (p := ⟨b, off + j, none⟩) hlt).trans (hc j u hu)⟩
theorem BIn.mono {w : World} {B B' : Nat} {A : Option Addr} {l : List UInt8} (h : BIn w B A l) (hB : B ≤ B') : BIn w B' A l := by
  rcases h with h | ⟨b, off, hA, hlt, hc⟩
  · exact .inl h
  · exact .inr ⟨b, off, hA, by omega, hc⟩
theorem BIn.at_ {w : World} {B : Nat} {A : Option Addr} {l : List UInt8} (h : BIn w B A l) {k : Nat} (hk : k < l.length) :
    ∃ b off, A = some ⟨b, off, none⟩ ∧ b < B ∧ w.cell? ⟨b, off + k, none⟩ = some (.int .u8 (l[k].toNat : Int)) := by
  rcases h with h | ⟨b, off, hA, hlt, hc⟩
  · subst h; simp at hk
  · exact ⟨b, off, hA, hlt, hc k _ (List.getElem?_eq_getElem hk)⟩

/-- The cells of a list of damage. -/
def dmgCells : List (Nat × UInt8) → List Value
  | [] => []
  | x :: r => .int .i64 (x.1 : Int) :: .int .i64 (x.2.toNat : Int) :: dmgCells r
theorem dmgCells_append : ∀ a b : List (Nat × UInt8), dmgCells (a ++ b) = dmgCells a ++ dmgCells b
  | [], _ => rfl
  | x :: a, b => by simp [dmgCells, dmgCells_append a b]
theorem dmgCells_length : ∀ a : List (Nat × UInt8), (dmgCells a).length = 2 * a.length
  | [] => rfl
  | x :: a => by simp [dmgCells, dmgCells_length a]; omega

theorem dmgCells_at : ∀ (ds : List (Nat × UInt8)) (i : Nat) (x : Nat × UInt8), ds[i]? = some x → (dmgCells ds)[2 * i]? = some (.int .i64 (x.1 : Int)) ∧ (dmgCells ds)[2 * i + 1]? = some (.int .i64 (x.2.toNat : Int))
  | [], i, x, h => by simp at h
  | y :: ds, 0, x, h => by simp at h; subst h; simp [dmgCells]
  | y :: ds, i + 1, x, h => by
    have ih := dmgCells_at ds i x (by simpa using h)
    simp only [dmgCells]
    rw [show 2 * (i + 1) = 2 * i + 1 + 1 by omega, show 2 * i + 1 + 1 + 1 = (2 * i + 1) + 1 + 1 by omega]
    simpa using ih
/-- A list of damage that the call owns, from block B on. -/
def Dmg (w : World) (B : Nat) (v : Value) (ds : List (Nat × UInt8)) : Prop := w.ownsRow B 37 2 v ds.length (dmgCells ds)
theorem Dmg.nil (w : World) (B : Nat) : Dmg w B (.slice none 0 0) [] := World.ownsRow_nil w B 37 2

theorem Dmg.cell {w : World} {B : Nat} {v : Value} {ds : List (Nat × UInt8)} (h : Dmg w B v ds) {i : Nat} {x : Nat × UInt8} (hx : ds[i]? = some x) :
    ∃ g cap, v = .slice (some ⟨g, 0, none⟩) ds.length cap ∧ B ≤ g ∧ w.cell? ⟨g, i * 2, none⟩ = some (.int .i64 (x.1 : Int)) ∧ w.cell? ⟨g, i * 2 + 1, none⟩ = some (.int .i64 (x.2.toNat : Int)) := by
  obtain ⟨h1, h2⟩ := dmgCells_at ds i x hx
  rw [Nat.mul_comm] at h1 h2
  rcases h.2 with ⟨_, h0⟩ | ⟨g, cap, cur, hv, hB, _⟩
  · have := (List.getElem?_eq_some_iff.1 hx).1
    omega
  · refine ⟨g, cap, hv, hB, ?_, ?_⟩
    · have := World.ownsRow.cells h (g := g) (by rw [hv]; rfl) _ _ h1
      rwa [Addr.add_lit, Nat.zero_add] at this
    · have := World.ownsRow.cells h (g := g) (by rw [hv]; rfl) _ _ h2
      rwa [Addr.add_lit, Nat.zero_add] at this
theorem Dmg.len {w : World} {B : Nat} {v : Value} {ds : List (Nat × UInt8)} (h : Dmg w B v ds) : ∃ A cap, v = .slice A ds.length cap ∧ ds.length ≤ cap := by
  rcases h.2 with ⟨hv, h0⟩ | ⟨g, cap, cur, hv, _, _, hc, _⟩
  · exact ⟨none, 0, by rw [hv, h0], by omega⟩
  · exact ⟨_, cap, hv, hc⟩
/-- What a builder's write leaves alone. -/
theorem Dmg.others {w w' : World} {B b : Nat} {v : Value} {ds : List (Nat × UInt8)} (h : Dmg w B v ds) (hk : OthersKept 5 (some b) w w') (hb : v.ownBlock ≠ some b) : Dmg w' B v ds := by
  obtain ⟨h1, h2⟩ := h
  refine ⟨h1, ?_⟩
  rcases h2 with h2 | ⟨g, cap, cur, hv, hg, hh, r⟩
  · exact .inl h2
  · refine .inr ⟨g, cap, cur, hv, hg, hk g _ hh ?_ ?_, r⟩
    · rw [hv] at hb; simpa [Value.ownBlock] using hb
    · intro c fz e; injection e with _ e _; exact absurd e (by decide)
/-- Such a list lies in no block of another type. -/
theorem Dmg.ne {w : World} {B b : Nat} {v : Value} {ds : List (Nat × UInt8)} (h : Dmg w B v ds) {cs : Array Value} {T : TypeId} {fz : Nat × Nat} (hb : w.heap[b]? = some (.cells cs T fz)) (hT : T ≠ 37) : v.ownBlock ≠ some b := by
  rcases h.2 with ⟨rfl, _⟩ | ⟨g, cap, cur, rfl, _, hg, _⟩
  · simp [Value.ownBlock]
  · intro e
    simp only [Value.ownBlock, Option.some.injEq] at e
    subst e
    rw [hg] at hb
    injection hb with hb
    injection hb with _ ht _
    exact hT ht.symm
theorem Dmg.ne_iter {w : World} {B b : Nat} {v : Value} {ds : List (Nat × UInt8)} (h : Dmg w B v ds) {s : ByteArray} {pos : Nat} (hb : w.heap[b]? = some (.stringIter s pos)) : v.ownBlock ≠ some b := by
  rcases h.2 with ⟨rfl, _⟩ | ⟨g, cap, cur, rfl, _, hg, _⟩
  · simp [Value.ownBlock]
  · intro e
    simp only [Value.ownBlock, Option.some.injEq] at e
    subst e
    rw [hg] at hb
    injection hb with hb
    cases hb
theorem Dmg.ne_builder {w : World} {B b B' : Nat} {v : Value} {ds : List (Nat × UInt8)} (h : Dmg w B v ds) {bs : List Value} (hb : IsBuilderF 54 5 B' b bs w) : v.ownBlock ≠ some b := by
  rcases hb with ⟨_, u, hb, _⟩ | ⟨_, u, hb, _⟩ <;> exact h.ne hb (by decide)
theorem Dmg.below {w w' : World} {B : Nat} {v : Value} {ds : List (Nat × UInt8)} (h : Dmg w B v ds) (hb : Below w.heap.size w w') : Dmg w' B v ds := by
  obtain ⟨h1, h2⟩ := h
  refine ⟨h1, ?_⟩
  rcases h2 with h2 | ⟨g, cap, cur, hv, hg, hh, r⟩
  · exact .inl h2
  · exact .inr ⟨g, cap, cur, hv, hg, (hb.block g (Array.getElem?_eq_some_iff.1 hh).1).trans hh, r⟩
theorem Dmg.iterAt {w : World} {B : Nat} {v : Value} {ds : List (Nat × UInt8)} (h : Dmg w B v ds) {k : Nat} {s : ByteArray} {pos : Nat} (hk : w.heap[k]? = some (.stringIter s pos)) (pos' : Nat) : Dmg (w.iterAt k s pos') B v ds := by
  have hne := h.ne_iter hk
  obtain ⟨h1, h2⟩ := h
  refine ⟨h1, ?_⟩
  rcases h2 with h2 | ⟨g, cap, cur, hv, hg, hh, r⟩
  · exact .inl h2
  · refine .inr ⟨g, cap, cur, hv, hg, ?_, r⟩
    rw [iterAt_other w k g s pos' (by rw [hv] at hne; simpa [Value.ownBlock] using hne)]
    exact hh

/-- A builder stays when another row has grown. -/
theorem builder_grown {B b : Nat} {bs : List Value} {w w' : World} (h : IsBuilderF 54 5 B b bs w) {v : Value} {row : Option Nat} (hg : w.grownBy w' row)
    (hrow : ∀ g, row = some g → ∃ c fz, w.heap[g]? = some (.cells c 37 fz)) : IsBuilderF 54 5 B b bs w' := by
  have key : ∀ p, BuilderAtF 54 5 B b p bs w → BuilderAtF 54 5 B b p bs w' := by
    rintro p ⟨hB, u, hb, hown, hne⟩
    refine ⟨hB, u, ?_, ?_, hne⟩
    · rw [hg.block b (Array.getElem?_eq_some_iff.1 hb).1 ?_]
      · exact hb
      · intro e
        obtain ⟨c, fz, hc⟩ := hrow b e.symm
        rw [hb] at hc
        injection hc with hc
        injection hc with _ ht _
        exact absurd ht (by decide)
    · refine hown.kept hg ?_
      by_cases hn : u.ownBlock = none
      · exact .inl hn
      · refine .inr fun e => ?_
        obtain ⟨g, hgu⟩ := Option.ne_none_iff_exists'.1 hn
        obtain ⟨c, fz, hc⟩ := ownsRowF_kind hown g hgu
        obtain ⟨c', fz', hc'⟩ := hrow g (by rw [← e]; exact hgu)
        rw [hc] at hc'
        injection hc' with hc'
        injection hc' with _ ht _
        exact absurd ht (by decide)
  rcases h with h | h
  · exact .inl (key _ h)
  · exact .inr (key _ h)
theorem Dmg.kind {w : World} {B : Nat} {v : Value} {ds : List (Nat × UInt8)} (h : Dmg w B v ds) : ∀ g, v.ownBlock = some g → ∃ c fz, w.heap[g]? = some (.cells c 37 fz) := by
  intro g hg
  rcases h.2 with ⟨rfl, _⟩ | ⟨g', cap, cur, rfl, _, hgg, _⟩
  · simp [Value.ownBlock] at hg
  · simp [Value.ownBlock] at hg
    subst hg
    exact ⟨cur, (0, 0), hgg⟩
theorem iter_grown {w w' : World} {k : Nat} {s : ByteArray} {pos : Nat} (h : w.heap[k]? = some (.stringIter s pos)) {row : Option Nat} (hg : w.grownBy w' row) (hrow : row ≠ some k) : w'.heap[k]? = some (.stringIter s pos) := by
  rw [hg.block k (Array.getElem?_eq_some_iff.1 h).1 (fun e => hrow e.symm)]
  exact h
theorem runeCells_nat (r : Nat) : runeCells (r : Int) = byteCells (encN r) := (byteCells_encodeRune r).symm
theorem sings_at (g k : Nat) (l : List UInt8) (h : k < l.length) : sings g k (l.drop k) = ⟨k, if l[k].toNat > g then 65533 else l[k].toNat, decide (l[k].toNat > g), l[k]⟩ :: sings g (k + 1) (l.drop (k + 1)) := by
  rw [List.drop_eq_getElem_cons h]
  rfl
theorem textT_cons (t : Tok) (ts : List Tok) : textT (t :: ts) = encN t.rune ++ textT ts := by simp [textT]
theorem dmgT_good (p r : Nat) (b : UInt8) (ts : List Tok) : dmgT (⟨p, r, false, b⟩ :: ts) = dmgT ts := by simp [dmgT]
theorem dmgT_bad (p r : Nat) (b : UInt8) (ts : List Tok) : dmgT (⟨p, r, true, b⟩ :: ts) = (p, b) :: dmgT ts := by simp [dmgT]
theorem Dmg.mono {w : World} {B B' : Nat} {v : Value} {ds : List (Nat × UInt8)} (h : Dmg w B v ds) (hB : B' ≤ B) : Dmg w B' v ds := by
  obtain ⟨h1, h2⟩ := h
  refine ⟨h1, ?_⟩
  rcases h2 with h2 | ⟨g, cap, cur, hv, hg, r⟩
  · exact .inl h2
  · exact .inr ⟨g, cap, cur, hv, by omega, r⟩
/-- 'string(b)'. -/
theorem BIn.convert {P : Program} {w : World} {B : Nat} {A : Option Addr} {l : List UInt8} (h : BIn w B A l) (c : Nat) (src e dst : TypeId)
    (hs : P.underlying src = some (.slice e)) (he : P.underlying e = some (.int .u8)) (hd : P.underlying dst = some .string) :
    (Go.convert src dst (.slice A l.length c)).run P w = .ok (.string ⟨l.toArray⟩) w := by
  have key : ∀ b off, (∀ (j : Nat) (u : UInt8), l[j]? = some u → w.cell? ⟨b, off + j, none⟩ = some (.int .u8 (u.toNat : Int))) → (Go.convert src dst (.slice (some ⟨b, off, none⟩) l.length c)).run P w = .ok (.string ⟨l.toArray⟩) w := by
    intro b off hc
    refine run_convert_bytes_back w src dst e ⟨b, off, none⟩ c l hs he hd (fun j hj => ?_)
    rw [Addr.add_lit]
    exact hc j _ (List.getElem?_eq_getElem hj)
  rcases h with h | ⟨b, off, rfl, _, hc⟩
  · subst h
    cases A with
    | none =>
      rw [run_convert_bytes_string w src dst e none _ c hs he hd]
      rfl
    | some a => exact run_convert_bytes_back w src dst e a c [] hs he hd (fun j hj => by simp at hj)
  · exact key b off hc
/-- What Decode hands back. -/
def Dec3 (W : World) (T : List UInt8) (D : List (Nat × UInt8)) (err : Int) (e : Ending) (w' : World) : Prop :=
  ∃ dv, e = .returned (.tuple #[.string ⟨T.toArray⟩, dv, .int .i64 err]) ∧ Dmg w' W.heap.size dv D ∧ Below W.heap.size W w'
/-- What a decoding of one kind hands back: the text, and its damage in a list of the call's own. -/
def DecP (W : World) (T : List UInt8) (D : List (Nat × UInt8)) (e : Ending) (w' : World) : Prop :=
  ∃ dv, e = .returned (.tuple #[.string ⟨T.toArray⟩, dv]) ∧ Dmg w' W.heap.size dv D ∧ Below W.heap.size W w'
/-- In the middle of such a decoding: the builder at block b holds acc, the list dv holds ds. -/
def MidP (W : World) (b : Nat) (acc : List UInt8) (dv : Value) (ds : List (Nat × UInt8)) (wr : World) : Prop :=
  IsBuilderF 54 5 W.heap.size b (byteCells acc) wr ∧ Dmg wr W.heap.size dv ds ∧ Below W.heap.size W wr
theorem MidP.start (w : World) : MidP w w.heap.size [] (.slice none 0 0) [] (w.alloc (.cells #[.pointer none, .slice none 0 0] 54)) :=
  ⟨IsBuilderF.of (.inl ⟨Nat.le_refl _, _, heap_alloc_new w _, World.ownsRow_nil _ _ _ _, by simp [Value.ownBlock]⟩), Dmg.nil _ _, (Below.refl _ w).alloc (Nat.le_refl _) _⟩
/-- A piece of damage has been appended. -/
theorem MidP.damage {W wr w2 : World} {b : Nat} {acc : List UInt8} {dv v' : Value} {ds : List (Nat × UInt8)} (h : MidP W b acc dv ds wr) {o : Obj} (k x : Nat) (y : UInt8) (hy : y.toNat = x)
    (hown : w2.ownsRow W.heap.size 37 2 v' (ds.length + 1) (dmgCells ds ++ [.int .i64 (k : Int), .int .i64 (x : Int)])) (hg : (wr.alloc o).grownBy w2 dv.ownBlock) : MidP W b acc v' (ds ++ [(k, y)]) w2 := by
  obtain ⟨hI, hd, hb⟩ := h
  refine ⟨builder_grown (v := dv) (hI.alloc o) hg ?_, ?_, ?_⟩
  · intro g hgv
    obtain ⟨c, fz, hc⟩ := hd.kind g hgv
    exact ⟨c, fz, (Below.heap_alloc wr o g (Array.getElem?_eq_some_iff.1 hc).1).trans hc⟩
  · unfold Dmg
    rw [dmgCells_append]
    simp only [dmgCells, hy, List.length_append, List.length_cons, List.length_nil, Nat.zero_add]
    exact hown
  · exact (hb.alloc hb.size o).grown hg (by have := hb.size; simp; omega) (fun k hk => (hd.lt k hk).1)
/-- A character has been written. -/
theorem MidP.write {W w2 w3 : World} {b : Nat} {acc : List UInt8} {dv : Value} {ds : List (Nat × UInt8)} (h : MidP W b acc dv ds w2) (r : Nat)
    (h3 : BuilderAtF 54 5 W.heap.size b (.pointer (some ⟨b, 0, none⟩)) (byteCells acc ++ runeCells (r : Int)) w3) (b3 : Below W.heap.size w2 w3) (k3 : OthersKept 5 (some b) w2 w3) : MidP W b (acc ++ encN r) dv ds w3 := by
  obtain ⟨hI, hd, hb⟩ := h
  refine ⟨.inr ?_, hd.others k3 (hd.ne_builder hI), hb.trans b3⟩
  rw [byteCells_append, ← runeCells_nat]
  exact h3
/-- Nothing that was there has turned. -/
theorem builder_below {B b : Nat} {bs : List Value} {w w' : World} (h : IsBuilderF 54 5 B b bs w) (hb : Below w.heap.size w w') : IsBuilderF 54 5 B b bs w' := by
  have key : ∀ p, BuilderAtF 54 5 B b p bs w → BuilderAtF 54 5 B b p bs w' := by
    rintro p ⟨hB, u, hu, hown, hne⟩
    exact ⟨hB, u, (hb.block b (Array.getElem?_eq_some_iff.1 hu).1).trans hu, hown.kept (row := none) ⟨hb.os, hb.tape, hb.output, hb.size, fun k hk _ => hb.block k hk⟩ (by cases u.ownBlock <;> simp), hne⟩
  rcases h with h | h
  · exact .inl (key _ h)
  · exact .inr (key _ h)
theorem MidP.below {W wr w2 : World} {b : Nat} {acc : List UInt8} {dv : Value} {ds : List (Nat × UInt8)} (h : MidP W b acc dv ds wr) (hb : Below wr.heap.size wr w2) : MidP W b acc dv ds w2 :=
  ⟨builder_below h.1 hb, h.2.1.below hb, h.2.2.trans (hb.mono h.2.2.size)⟩
theorem MidP.alloc {W wr : World} {b : Nat} {acc : List UInt8} {dv : Value} {ds : List (Nat × UInt8)} (h : MidP W b acc dv ds wr) (o : Obj) : MidP W b acc dv ds (wr.alloc o) :=
  ⟨h.1.alloc o, World.ownsRow.alloc h.2.1 o, h.2.2.alloc h.2.2.size o⟩
theorem MidP.iterAt {W wr : World} {b : Nat} {acc : List UInt8} {dv : Value} {ds : List (Nat × UInt8)} (h : MidP W b acc dv ds wr) {k : Nat} {s : ByteArray} {pos : Nat} (hk : wr.heap[k]? = some (.stringIter s pos)) (hW : W.heap.size ≤ k) (pos' : Nat) : MidP W b acc dv ds (wr.iterAt k s pos') :=
  ⟨h.1.iterAt hk pos', h.2.1.iterAt hk pos', below_iterAt h.2.2 hW s pos'⟩
theorem ret_tuple {v v' : Value} (h : v = v') : Ending.returned v = Ending.returned v' := by rw [h]
end Go.Proofs.YtcjomjhaimlbmaaDoor
