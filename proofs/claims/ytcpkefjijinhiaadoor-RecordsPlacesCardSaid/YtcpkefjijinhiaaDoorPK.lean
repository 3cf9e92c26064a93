/-
  What holds while the statement RecordsPlaces runs, and where the fields of a parsed record lie: no program. No conditions.
-/
import Derived.Test.YtcpkefjijinhiaaDoorDialP
import Derived.Test.YtcpkefjijinhiaaDoorFields
import Derived.Test.YtcpkefjijinhiaaDoorPL
import Derived.Test.YtcpkefjijinhiaaDoorRField
set_option linter.unusedVariables false
set_option linter.unusedSimpArgs false
namespace Go.Proofs.YtcpkefjijinhiaaDoor
open Go Go.Proofs Go.RowKit Go.Lib

theorem fmtGo_len (D Q : UInt8) : ∀ (ls : List (List Str)) (acc : Str), (fmtGo D Q acc ls).1.length ≤ 65536
  | [], acc => by
    unfold fmtGo
    split
    · simp
    · simp; omega
  | l :: r, acc => by
    unfold fmtGo
    split
    · simp
    · split
      · simp
      · exact fmtGo_len D Q r _
theorem fmtM_len (D Q : UInt8) (ls : List (List Str)) : (fmtM D Q ls).1.length ≤ 65536 := by
  unfold fmtM
  split
  · split
    · simp
    · exact fmtGo_len D Q ls []
  · simp
theorem wgtRow_made : ∀ (l : List Str), (∀ s ∈ l, s.length ≤ 6) → wgtRow l ≤ 1 + 15 * l.length
  | [], _ => by simp [wgtRow]
  | s :: r, h => by
    have ih := wgtRow_made r (fun x hx => h x (List.mem_cons_of_mem _ hx))
    have := h s (by simp)
    simp only [wgtRow, wgtF, List.length_cons]
    omega
theorem wgtRows_made : ∀ (ls : List (List Str)), (∀ l ∈ ls, MadeRow l) → wgtRows ls ≤ 76 * ls.length
  | [], _ => by simp [wgtRows]
  | l :: r, h => by
    have ih := wgtRows_made r (fun x hx => h x (List.mem_cons_of_mem _ hx))
    have hl := h l (by simp)
    have h1 := wgtRow_made l hl.2.2
    have h2 := hl.2.1
    simp only [wgtRows, List.length_cons]
    omega

/-- What is kept while the statement's calls run: the dialect's block, the dice, the first variable, the memory below. -/
structure MK (w0 : World) (xk g c : Nat) (A : Option Addr) (L : List Int) (D Q : UInt8) (m : Int) (W : World) : Prop where
  d0 : W.cell? ⟨xk, 0, none⟩ = some (.int .u8 D.toNat)
  d1 : W.cell? ⟨xk, 1, none⟩ = some (.int .u8 Q.toNat)
  lx : xk < W.heap.size
  m0 : W.cell? ⟨0, 0, none⟩ = some (.int .i64 m)
  dice : ∃ k', DiceAt W g A L c k'
  b : Below w0.heap.size w0 W
  ne : xk ≠ g
  gz : w0.heap.size ≤ g
  z0 : 0 < w0.heap.size
theorem MK.below {w0 W W' : World} {xk g c : Nat} {A : Option Addr} {L : List Int} {D Q : UInt8} {m : Int} (h : MK w0 xk g c A L D Q m W) (k : Below W.heap.size W W') : MK w0 xk g c A L D Q m W' := by
  obtain ⟨k', hd⟩ := h.dice
  exact ⟨(k.cell (p := ⟨xk, 0, none⟩) h.lx).trans h.d0, (k.cell (p := ⟨xk, 1, none⟩) h.lx).trans h.d1, Nat.lt_of_lt_of_le h.lx k.size,
    (k.cell (p := ⟨0, 0, none⟩) (Nat.lt_of_lt_of_le h.z0 h.b.size)).trans h.m0, ⟨k', hd.below k hd.lt⟩, h.b.trans (k.mono h.b.size), h.ne, h.gz, h.z0⟩
theorem MK.played {w0 W W' : World} {xk g c k' : Nat} {A : Option Addr} {L : List Int} {D Q : UInt8} {m : Int} (h : MK w0 xk g c A L D Q m W) (hd : DiceAt W' g A L c k') (k : Played W.heap.size g W W') : MK w0 xk g c A L D Q m W' :=
  ⟨(World.cell?_of_block (w := W) (k.block xk h.lx h.ne)).trans h.d0, (World.cell?_of_block (w := W) (k.block xk h.lx h.ne)).trans h.d1, Nat.lt_of_lt_of_le h.lx k.size,
    (World.cell?_of_block (w := W) (k.block 0 (Nat.lt_of_lt_of_le h.z0 h.b.size) (by have := h.gz; have := h.z0; omega))).trans h.m0, ⟨k', hd⟩, h.b.trans (k.toBelow h.b.size h.gz), h.ne, h.gz, h.z0⟩
theorem MK.m1 {w0 W : World} {xk g c : Nat} {A : Option Addr} {L : List Int} {D Q : UInt8} {m : Int} (h : MK w0 xk g c A L D Q m W) : 0 < W.heap.size := Nat.lt_of_lt_of_le h.z0 h.b.size

/-- What a record's field says of its place. -/
theorem field_place {S : ByteArray} {Q : UInt8} {r : Rec} (h : Placed (lst S) Q r) {k : Nat} {f : Fld} (hf : r.fields[k]? = some f) :
    ∃ a : Nat, a < S.size ∧ begP S (r.line - 1).toNat = a ∧ r.line ≤ (S.size : Int) + 1 ∧ 1 ≤ f.col ∧ f.col ≤ (S.size : Int) + 1 ∧ (k = 0 → f.col = 1 ∧ (f.quoted = true → (lst S)[a]? = some Q) ∧
      (f.quoted = false → S.extract a (a + f.text.length) = ⟨f.text.toArray⟩ ∧ a + f.text.length ≤ S.size)) := by
  obtain ⟨a, f0, gs, ha, hl, hb, hfs, hc, hq, hn, hg⟩ := h
  have hsz : (lst S).length = S.size := by rw [← Lib.size_eq]
  have hln : lineOf (lst S) a ≤ S.size + 1 ∧ 1 ≤ lineOf (lst S) a := ⟨by have := lineOf_le (lst S) a; omega, by unfold lineOf; omega⟩
  refine ⟨a, by omega, ?_, by omega, ?_⟩
  · rw [hl, show ((lineOf (lst S) a : Int) - 1).toNat = lineOf (lst S) a - 1 by omega, begP_line S (lst S) rfl a (by omega), hb]
  · rw [hfs] at hf
    cases k with
    | zero =>
      obtain rfl : f0 = f := by simpa using hf
      refine ⟨by omega, by omega, fun _ => ⟨hc, hq, fun h => ?_⟩⟩
      obtain ⟨h1, h2⟩ := hn h
      refine ⟨?_, by omega⟩
      have := ByteArray.extract_mk (lst S) a (a + f0.text.length)
      rw [show a + f0.text.length - a = f0.text.length by omega, h1] at this
      exact this
    | succ k =>
      have hm : f ∈ gs := List.mem_of_getElem? (by simpa using hf)
      have := hg f hm
      exact ⟨this.1, by omega, fun h => by omega⟩

end Go.Proofs.YtcpkefjijinhiaaDoor
