/-
  The made numbers: Mod, Light, Roll, Next, One of package timetablemade, for any list of numbers. Conditions: the numbers lie in memory as a slice of ints.
  The made numbers, one after the other: Next and One of timetablemade.Dice. Conditions: the dice lie in memory.
  The made texts: Light, Roll, One, Text of package timetablemade. Conditions: the numbers lie in memory as a slice of ints.
  Slices of ints in memory, and whether two of them are equal: the reference's SameInts. Conditions: both lie in memory.
  Strings as lists of bytes, cut at a byte; lists of strings in memory. No program beyond the types' facts, no conditions.
  Sets of weeks: plain mathematics. No program, no conditions.
  isLength, span, Valid: the program's and the specification's. Conditions: span's arguments are from 1 to 21 and from 0 to 20.
-/
import Derived.Test.YtigdcgklpapfbaaGreatDoorProg
import Derived.WalkSpells
import Derived.WalkLawsBesides
import Derived.Lib.Hide
import Derived.BigQuiet
import Derived.Lib.BufferWrite
import Derived.Lib.IndexLaws
import Derived.Lib.ItoaNum
import Derived.Lib.Atoi
set_option linter.unusedVariables false
namespace Go.Proofs.YtigdcgklpapfbaaGreatDoor
open Go Go.Proofs Go.RowKit Go.Lib

/-- The slice at A holds the numbers L, in blocks below B. -/
def IntsIn (w : World) (B : Nat) (A : Option Addr) (L : List Int) : Prop :=
  L = [] ∨ ∃ b off, A = some ⟨b, off, none⟩ ∧ b < B ∧ ∀ (j : Nat) (v : Int), L[j]? = some v → w.cell? ⟨b, off + j, none⟩ = some (.int .i64 v)
theorem IntsIn.below {w w' : World} {B : Nat} {A : Option Addr} {L : List Int} (h : IntsIn w B A L) (hb : Below B w w') : IntsIn w' B A L := by
  rcases h with h | ⟨b, off, hA, hlt, hc⟩
  · exact .inl h
  · exact .inr ⟨b, off, hA, hlt, fun j v hv => (hb.cell (p := ⟨b, off + j, none⟩) hlt).trans (hc j v hv)⟩
/-- Two worlds that differ in block g alone (and in what has been drawn). -/
structure Rolled (g : Nat) (w w' : World) : Prop where
  os : w'.os = w.os
  tape : w'.tape = w.tape
  output : w'.output = w.output
  size : w'.heap.size = w.heap.size
  block : ∀ k, k ≠ g → w'.heap[k]? = w.heap[k]?
theorem Rolled.refl (g : Nat) (w : World) : Rolled g w w := ⟨rfl, rfl, rfl, rfl, fun _ _ => rfl⟩
theorem Rolled.trans {g : Nat} {a b c : World} (h : Rolled g a b) (k : Rolled g b c) : Rolled g a c :=
  ⟨k.os.trans h.os, k.tape.trans h.tape, k.output.trans h.output, k.size.trans h.size, fun i hi => (k.block i hi).trans (h.block i hi)⟩
theorem Rolled.drawn (g : Nat) (w : World) : ∀ n, Rolled g w (w.drewN n)
  | 0 => Rolled.refl g w
  | n + 1 => ⟨(Rolled.drawn g w n).os, (Rolled.drawn g w n).tape, (Rolled.drawn g w n).output, (Rolled.drawn g w n).size, (Rolled.drawn g w n).block⟩
theorem Rolled.set (g i : Nat) (w : World) (v : Value) : Rolled g w (w.setCell ⟨g, i, none⟩ v) :=
  ⟨by simp [World.setCell], by simp [World.setCell], by simp [World.setCell], by simp [World.setCell], fun k hk => Below.heap_setCell w ⟨g, i, none⟩ v k hk⟩
theorem Rolled.row {g B e z n : Nat} {w w' : World} (h : Rolled g w w') {v : Value} {xs : List Value} (hr : w.ownsRow B e z v n xs) (hv : v.ownBlock ≠ some g) : w'.ownsRow B e z v n xs := by
  obtain ⟨h1, h2⟩ := hr
  refine ⟨h1, ?_⟩
  rcases h2 with h2 | ⟨k, cap, cur, hk, hg, hh, r⟩
  · exact .inl h2
  · refine .inr ⟨k, cap, cur, hk, hg, (h.block k ?_).trans hh, r⟩
    intro e
    subst e
    exact hv (by rw [hk]; rfl)

/-- Dice in block g, over the numbers L, of which so many have been given out. -/
structure DiceAt (w : World) (g : Nat) (A : Option Addr) (L : List Int) (c k : Nat) : Prop where
  cells : w.heap[g]? = some (.cells #[.slice A L.length c, .int .i64 (k : Int)] 97 (0, 0))
  le : k ≤ L.length
  ints : IntsIn w g A L
  few : L.length ≤ 400
theorem DiceAt.list {w : World} {g c k : Nat} {A : Option Addr} {L : List Int} (h : DiceAt w g A L c k) : w.cell? ⟨g, 0, none⟩ = some (.slice A L.length c) := by
  rw [Lib.cell_of_heap h.cells]
  rfl
theorem DiceAt.at_ {w : World} {g c k : Nat} {A : Option Addr} {L : List Int} (h : DiceAt w g A L c k) : w.cell? ⟨g, 1, none⟩ = some (.int .i64 (k : Int)) := by
  rw [Lib.cell_of_heap h.cells]
  rfl
theorem DiceAt.rolled {w w' : World} {g c k : Nat} {A : Option Addr} {L : List Int} (h : DiceAt w g A L c k) (hr : ∀ i, i ≤ g → w'.heap[i]? = w.heap[i]?) : DiceAt w' g A L c k := by
  refine ⟨(hr g (Nat.le_refl _)).trans h.cells, h.le, ?_, h.few⟩
  rcases h.ints with h' | ⟨b, off, hA, hlt, hc⟩
  · exact .inl h'
  · exact .inr ⟨b, off, hA, hlt, fun j v hv => (World.cell?_of_block (w := w) (hr b (by omega))).trans (hc j v hv)⟩

/-- What Mod returns. -/
def modI (n m : Int) : Int := if m < 1 then 0 else if n.tmod m < 0 then n.tmod m + m else n.tmod m
theorem modI_range (n m : Int) (h : 1 ≤ m) : 0 ≤ modI n m ∧ modI n m < m := by
  unfold modI
  have h1 := Int.tmod_lt_of_pos n (show (0 : Int) < m by omega)
  have h2 := Int.lt_tmod_of_pos n (show (0 : Int) < m by omega)
  rw [if_neg (by omega)]
  split <;> omega
set_option maxHeartbeats 1000000 in
theorem mod_any (n m : Int) (hm : m ≤ 4294967296) (w : World) : Calls Tryz.prog 34 #[.int .i64 n, .int .i64 m] w fun e w' => e = .returned (.int .i64 (modI n m)) ∧ w = w' := by
  by_cases h : m < 1
  · have e : modI n m = 0 := if_pos h
    rw [e]
    go_enter Tryz.func34, Tryz.ntmps34
    go_wp2
    go_ret
    exact ⟨rfl, rfl⟩
  · have hne : (m == 0) = false := by simp; omega
    have ha := Int.tmod_lt_of_pos n (show (0 : Int) < m by omega)
    have hb := Int.lt_tmod_of_pos n (show (0 : Int) < m by omega)
    have hE : modI n m = if n.tmod m < 0 then n.tmod m + m else n.tmod m := if_neg h
    have HE := hid hE
    clear hE
    go_enter Tryz.func34, Tryz.ntmps34
    go_wp2
    · have e : modI n m = n.tmod m + m := by rw [HE.out]; exact if_pos (by assumption)
      rw [e]
      go_ret
      exact ⟨rfl, rfl⟩
    · have e : modI n m = n.tmod m := by rw [HE.out]; exact if_neg (by omega)
      rw [e]
      go_ret
      exact ⟨rfl, rfl⟩
end Go.Proofs.YtigdcgklpapfbaaGreatDoor

set_option linter.unusedVariables false
namespace Go.Proofs.YtigdcgklpapfbaaGreatDoor
open Go Go.Proofs Go.RowKit Go.Lib

theorem DiceAt.next {w : World} {g c k : Nat} {A : Option Addr} {L : List Int} (h : DiceAt w g A L c k) (hk : k < L.length) : DiceAt (w.setCell ⟨g, 1, none⟩ (.int .i64 ((k : Int) + 1))) g A L c (k + 1) := by
  refine ⟨?_, hk, ?_, h.few⟩
  · rw [heap_setCell_same w g 1 _ _ _ h.cells]
    rfl
  · rcases h.ints with h' | ⟨b, off, hA, hlt, hc⟩
    · exact .inl h'
    · refine .inr ⟨b, off, hA, hlt, fun j v hv => ?_⟩
      have : (w.setCell ⟨g, 1, none⟩ (.int .i64 ((k : Int) + 1))).heap[b]? = w.heap[b]? := Below.heap_setCell w _ _ b (by show b ≠ g; omega)
      exact (World.cell?_of_block (w := w) this).trans (hc j v hv)
theorem DiceAt.drawn {w : World} {g c k : Nat} {A : Option Addr} {L : List Int} (h : DiceAt w g A L c k) (n : Nat) : DiceAt (w.drewN n) g A L c k :=
  h.rolled fun i _ => by
    by_cases e : i = g + 1
    · exact (Rolled.drawn g w n).block i (by omega)
    · exact (Rolled.drawn (g + 1) w n).block i e
theorem DiceAt.free {w : World} {g c k : Nat} {A : Option Addr} {L : List Int} (h : DiceAt w g A L c k) (j : Nat) : w.frozen? ⟨g, j, none⟩ = false := by
  simp [World.frozen?, h.cells]

set_option maxHeartbeats 2000000 in
set_option maxRecDepth 100000 in
theorem next_any (g c k : Nat) (A : Option Addr) (L : List Int) (n : Int) (hn : n ≤ 4294967296) (w : World) (h : DiceAt w g A L c k) :
    Calls Tryz.prog 26 #[.pointer (some ⟨g, 0, none⟩), .int .i64 n] w fun e w' => (∃ r : Int, e = .returned (.int .i64 r) ∧ (1 ≤ n → 0 ≤ r ∧ r < n)) ∧ (∃ k', DiceAt w' g A L c k') ∧ Rolled g w w' := by
  have h0 := h.list
  have h1 := h.at_
  have hle := h.le
  have hfew := h.few
  have H := hid h
  clear h
  by_cases hk : k < L.length
  · have hkz : ¬ (L.length : Int) ≤ (k : Int) := by omega
    have hkb : decide (L.length ≤ k) = false := decide_eq_false (by omega)
    go_enter Tryz.func26, Tryz.ntmps26
    go_wp2
    go_quiet (fail)
    have hD := H.out.drawn nq
    have hR := Rolled.drawn g w nq
    generalize w.drewN nq = w1 at hD hR ⊢
    clear h0 h1 H
    have h0 := hD.list
    have h1 := hD.at_
    have hf := hD.free 1
    have hD2 := hD.next hk
    have hR2 := hR.trans (Rolled.set g 1 w1 (.int .i64 ((k : Int) + 1)))
    have HD2 := hid hD2
    have HR2 := hid hR2
    clear hD hR hD2 hR2
    go_wp2
    have hD := HD2.out
    have hR := HR2.out
    clear HD2 HR2 h0 h1 hf
    generalize w1.setCell ⟨g, 1, none⟩ (.int .i64 ((k : Int) + 1)) = w2 at hD hR ⊢
    have h0 := hD.list
    have h1 := hD.at_
    rw [show (((k + 1 : Nat)) : Int) = (k : Int) + 1 by omega] at h1
    obtain ⟨v, hv⟩ : ∃ v, L[k]? = some v := ⟨_, List.getElem?_eq_getElem hk⟩
    obtain ⟨b, off, rfl, hc⟩ : ∃ b off, A = some ⟨b, off, none⟩ ∧ w2.cell? ⟨b, off + k, none⟩ = some (.int .i64 v) := by
      rcases hD.ints with h' | ⟨b, off, hA, _, hc⟩
      · rw [h'] at hk; simp at hk
      · exact ⟨b, off, hA, hc k v hv⟩
    have HD := hid hD
    have HR := hid hR
    have hm := modI_range v n
    have HM := hid hm
    clear hD hR hv hm
    go_quiet ((go_at_call 34; with_reducible refine Calls.quiet_of_same ((mod_any v n hn _).mono fun _ _ h => ⟨h.1, h.2.symm⟩)))
    go_wp2
    go_ret
    exact ⟨⟨_, rfl, HM.out⟩, ⟨_, HD.out.drawn nq⟩, HR.out.trans (Rolled.drawn g w2 nq)⟩
  · have hkz : (L.length : Int) ≤ (k : Int) := by omega
    have hkb : decide (L.length ≤ k) = true := decide_eq_true (by omega)
    go_enter Tryz.func26, Tryz.ntmps26
    go_wp2
    go_quiet (fail)
    go_wp2
    go_ret
    exact ⟨⟨0, rfl, fun _ => by omega⟩, ⟨_, H.out.drawn nq⟩, Rolled.drawn g w nq⟩
end Go.Proofs.YtigdcgklpapfbaaGreatDoor

set_option linter.unusedVariables false
namespace Go.Proofs.YtigdcgklpapfbaaGreatDoor
open Go Go.Proofs Go.RowKit Go.Lib

/-- Of the blocks below B only g may differ. -/
structure Played (B g : Nat) (a w : World) : Prop where
  os : w.os = a.os
  tape : w.tape = a.tape
  output : w.output = a.output
  size : a.heap.size ≤ w.heap.size
  block : ∀ k, k < B → k ≠ g → w.heap[k]? = a.heap[k]?
theorem Played.refl (B g : Nat) (w : World) : Played B g w w := ⟨rfl, rfl, rfl, Nat.le_refl _, fun _ _ _ => rfl⟩
theorem Played.trans {B B' g : Nat} {a b c : World} (h : Played B g a b) (k : Played B' g b c) (hB : B ≤ B') : Played B g a c :=
  ⟨k.os.trans h.os, k.tape.trans h.tape, k.output.trans h.output, Nat.le_trans h.size k.size, fun i hi hg => (k.block i (by omega) hg).trans (h.block i hi hg)⟩
theorem Played.below {B g : Nat} {a w w' : World} (h : Played B g a w) (k : Below B w w') : Played B g a w' :=
  ⟨k.os.trans h.os, k.tape.trans h.tape, k.output.trans h.output, Nat.le_trans h.size k.size, fun i hi hg => (k.block i hi).trans (h.block i hi hg)⟩
theorem Played.rolled {B g : Nat} {a w w' : World} (h : Played B g a w) (k : Rolled g w w') : Played B g a w' :=
  ⟨k.os.trans h.os, k.tape.trans h.tape, k.output.trans h.output, by rw [k.size]; exact h.size, fun i hi hg => (k.block i hg).trans (h.block i hi hg)⟩
theorem Played.toBelow {B B' g : Nat} {a w : World} (h : Played B g a w) (h1 : B' ≤ B) (h2 : B' ≤ g) : Below B' a w :=
  ⟨h.os, h.tape, h.output, h.size, fun k hk => h.block k (by omega) (by omega)⟩
theorem Played.row {B g B0 e z n : Nat} {a w : World} (h : Played B g a w) {v : Value} {xs : List Value} (hr : a.ownsRow B0 e z v n xs) (hv : ∀ k, v.ownBlock = some k → k < B ∧ k ≠ g) : w.ownsRow B0 e z v n xs := by
  obtain ⟨h1, h2⟩ := hr
  refine ⟨h1, ?_⟩
  rcases h2 with h2 | ⟨k, cap, cur, hk, hg, hh, r⟩
  · exact .inl h2
  · obtain ⟨h3, h4⟩ := hv k (by rw [hk]; rfl)
    exact .inr ⟨k, cap, cur, hk, hg, (h.block k h3 h4).trans hh, r⟩
theorem DiceAt.below {w w' : World} {g c k B : Nat} {A : Option Addr} {L : List Int} (h : DiceAt w g A L c k) (hb : Below B w w') (hg : g < B) : DiceAt w' g A L c k :=
  h.rolled fun i hi => hb.block i (by omega)
theorem DiceAt.lt {w : World} {g c k : Nat} {A : Option Addr} {L : List Int} (h : DiceAt w g A L c k) : g < w.heap.size := (Array.getElem?_eq_some_iff.1 h.cells).1

/-- A row of bytes as a string. -/
theorem row_string {P : Program} {w : World} {B : Nat} {v : Value} {l : List UInt8} {t : TypeId} (h : w.ownsRow B t 1 v l.length (byteCells l)) (src e dst : TypeId)
    (hs : P.underlying src = some (.slice e)) (he : P.underlying e = some (.int .u8)) (hd : P.underlying dst = some .string) :
    (Go.convert src dst v).run P w = .ok (.string ⟨l.toArray⟩) w := by
  rcases h.2 with ⟨hv, h0⟩ | ⟨k, cap, cur, hv, _⟩
  · have hl : l = [] := List.eq_nil_of_length_eq_zero h0
    rw [hv, run_convert_bytes_string w src dst e none _ _ hs he hd, hl]
    rfl
  · rw [hv]
    refine run_convert_bytes_back w src dst e ⟨k, 0, none⟩ cap l hs he hd (fun j hj => ?_)
    refine World.ownsRow.cells h (g := k) (by rw [hv]; rfl) j _ ?_
    unfold byteCells
    rw [List.getElem?_map, List.getElem?_eq_getElem hj]
    rfl
theorem one_new (w : World) (a : Value) (t : TypeId) : ∀ (j : Nat) (u : Value), [a][j]? = some u → (w.alloc (.cells #[a] t)).cell? ((⟨w.heap.size, 0, none⟩ : Addr).add j) = some u := by
  intro j u hj
  match j, hj with
  | 0, hj => simp at hj; subst hj; simp [Addr.add]
  | j + 1, hj => simp at hj
theorem one_one (a : IntKind) (x : Int) : ∀ u ∈ [Value.int a x], u.oneCell' = true := by
  intro u hu
  simp at hu
  subst hu
  rfl
theorem grownBy_of_alloc {wr w2 : World} {o : Obj} {row : Option Nat} (hg : (wr.alloc o).grownBy w2 row) : wr.grownBy w2 row :=
  ⟨hg.os, hg.tape, hg.output, by have := hg.size; simp at this; omega, fun k hk hr => (hg.block k (by simp; omega) hr).trans (Below.heap_alloc wr o k hk)⟩
theorem infoByte : (Tryz.prog.info? 5).map (fun i => (i.zero, i.size, i.bytes)) = some (some (.int .u8 0), 1, 1) := by kernel_rfl

set_option maxHeartbeats 1000000 in
theorem light_any (A : Option Addr) (n c : Nat) (w : World) : Calls Tryz.prog 23 #[.slice A n c] w fun e w' => e = .returned (.bool (decide (n ≤ 400))) ∧ w = w' := by
  have e1 : decide ((n : Int) ≤ 400) = decide (n ≤ 400) := decide_eq_decide.2 (by omega)
  by_cases h : n ≤ 400
  · have hz : (n : Int) ≤ 400 := by omega
    rw [decide_eq_true h]
    go_enter Tryz.func23, Tryz.ntmps23
    go_wp2
    go_ret
    exact ⟨rfl, rfl⟩
  · have hz : ¬ (n : Int) ≤ 400 := by omega
    rw [decide_eq_false h]
    go_enter Tryz.func23, Tryz.ntmps23
    go_wp2
    go_ret
    exact ⟨rfl, rfl⟩

set_option maxHeartbeats 1000000 in
theorem roll_any (A : Option Addr) (L : List Int) (c : Nat) (hL : L.length ≤ 400) (w : World) (h : IntsIn w w.heap.size A L) :
    Calls Tryz.prog 24 #[.slice A L.length c] w fun e w' => e = .returned (.pointer (some ⟨w.heap.size, 0, none⟩)) ∧ DiceAt w' w.heap.size A L c 0 ∧ Below w.heap.size w w' := by
  have HH := hid h
  clear h
  go_enter Tryz.func24, Tryz.ntmps24
  go_wp2
  go_ret
  have hb := (Below.refl _ w).alloc (Nat.le_refl _) (.cells #[.slice A L.length c, .int .i64 0] 97)
  exact ⟨rfl, ⟨heap_alloc_new w _, Nat.zero_le _, HH.out.below hb, hL⟩, hb⟩

set_option maxHeartbeats 1000000 in
theorem one_any (g c k : Nat) (A : Option Addr) (L : List Int) (n : Int) (hn : n ≤ 4294967296) (hn1 : 1 ≤ n) (w : World) (h : DiceAt w g A L c k) :
    Calls Tryz.prog 30 #[.pointer (some ⟨g, 0, none⟩), .int .i64 n] w fun e w' => (∃ r : Bool, e = .returned (.bool r)) ∧ (∃ k', DiceAt w' g A L c k') ∧ Rolled g w w' := by
  have cN := next_any g c k A L n hn w h
  have CN := hid cN
  clear cN h
  go_enter Tryz.func30, Tryz.ntmps30
  go_wp2_with fail
  refine CN.out.mono ?_
  rintro e w1 ⟨⟨r, rfl, hr⟩, hd, hR⟩
  have HD := hid hd
  have HR := hid hR
  clear hd hR hr
  go_wp2
  go_ret
  exact ⟨⟨_, rfl⟩, HD.out, HR.out⟩
end Go.Proofs.YtigdcgklpapfbaaGreatDoor

set_option linter.unusedVariables false
namespace Go.Proofs.YtigdcgklpapfbaaGreatDoor
open Go Go.Proofs Go.RowKit Go.Lib

theorem getD_elem {L : List Int} {j : Nat} (hj : j < L.length) : L.getD j 0 = L[j] := by simp [List.getD, List.getElem?_eq_getElem hj]
theorem IntsIn.at_ {w : World} {B : Nat} {A : Option Addr} {L : List Int} (h : IntsIn w B A L) {k : Nat} (hk : k < L.length) : ∃ b off, A = some ⟨b, off, none⟩ ∧ b < B ∧ w.cell? ⟨b, off + k, none⟩ = some (.int .i64 (L.getD k 0)) := by
  rcases h with h | ⟨b, off, hA, hlt, hc⟩
  · subst h; simp at hk
  · exact ⟨b, off, hA, hlt, by simpa [List.getD, List.getElem?_eq_getElem hk] using hc k _ (List.getElem?_eq_getElem hk)⟩
theorem IntsIn.drawn {w : World} {B : Nat} {A : Option Addr} {L : List Int} (h : IntsIn w B A L) (n : Nat) : IntsIn (w.drewN n) B A L := by
  rcases h with h | ⟨b, off, hA, hlt, hc⟩
  · exact .inl h
  · exact .inr ⟨b, off, hA, hlt, fun j v hv => hc j v hv⟩
theorem infoInt : (Tryz.prog.info? 3).map (fun i => (i.zero, i.size, i.bytes)) = some (some (.int .i64 0), 1, 8) := by kernel_rfl
def intVals (l : List Int) : List Value := l.map (Value.int .i64)
theorem intVals_len (l : List Int) : (intVals l).length = l.length := by simp [intVals]
theorem intVals_app (a b : List Int) : intVals (a ++ b) = intVals a ++ intVals b := by simp [intVals]
/-- A row of ints that the call owns. -/
def IntRow (w : World) (B : Nat) (v : Value) (l : List Int) : Prop := w.ownsRow B 3 1 v l.length (intVals l)
theorem IntRow.nil (w : World) (B : Nat) : IntRow w B (.slice none 0 0) [] := ⟨rfl, .inl ⟨rfl, rfl⟩⟩
theorem IntRow.intsIn {w : World} {B : Nat} {v : Value} {l : List Int} (h : IntRow w B v l) : ∃ A c, v = .slice A l.length c ∧ l.length ≤ c ∧ c ≤ 9223372036854775807 ∧ IntsIn w w.heap.size A l := by
  have h' := h
  rcases h.2 with ⟨hv, h0⟩ | ⟨g, cap, cur, hv, hB, hg, h1, h2, _⟩
  · have hl : l = [] := List.eq_nil_of_length_eq_zero h0
    subst hl
    exact ⟨none, 0, hv, Nat.le_refl _, by omega, .inl rfl⟩
  · refine ⟨_, cap, hv, h1, by unfold maxLen at h2; omega, .inr ⟨g, 0, rfl, (Array.getElem?_eq_some_iff.1 hg).1, fun j s hj => ?_⟩⟩
    have := World.ownsRow.cells h' (g := g) (by rw [hv]; rfl) j (.int .i64 s) (by unfold intVals; rw [List.getElem?_map, hj]; rfl)
    rwa [Addr.add_lit] at this
theorem IntRow.mono {w : World} {B B' : Nat} {v : Value} {l : List Int} (h : IntRow w B v l) (hB : B' ≤ B) : IntRow w B' v l := by
  obtain ⟨h1, h2⟩ := h
  refine ⟨h1, ?_⟩
  rcases h2 with h2 | ⟨g, cap, cur, hv, hg, r⟩
  · exact .inl h2
  · exact .inr ⟨g, cap, cur, hv, by omega, r⟩
theorem row_under {w w' : World} {B e z n : Nat} {v : Value} {xs : List Value} (h : w.ownsRow B e z v n xs) (hb : Below w.heap.size w w') : w'.ownsRow B e z v n xs := by
  obtain ⟨h1, h2⟩ := h
  refine ⟨h1, ?_⟩
  rcases h2 with h2 | ⟨k, cap, cur, hk, hg, hh, r⟩
  · exact .inl h2
  · exact .inr ⟨k, cap, cur, hk, hg, (hb.block k (Array.getElem?_eq_some_iff.1 hh).1).trans hh, r⟩
theorem row_slice {w : World} {B e z n : Nat} {v : Value} {xs : List Value} (h : w.ownsRow B e z v n xs) : ∃ A c, v = .slice A n c := by
  rcases h.2 with ⟨hv, h0⟩ | ⟨g, cap, cur, hv, _⟩
  · exact ⟨none, 0, by rw [hv, h0]⟩
  · exact ⟨_, cap, hv⟩
theorem info_parts {P : Program} {t : TypeId} {z : Value} {n b : Nat} (h : (P.info? t).map (fun i => (i.zero, i.size, i.bytes)) = some (some z, n, b)) : ∃ i, P.info? t = some i ∧ i.zero = some z ∧ i.size = n ∧ i.bytes = b := by
  cases hi : P.info? t with
  | none => rw [hi] at h; simp at h
  | some i =>
    rw [hi] at h
    simp only [Option.map_some, Option.some.injEq, Prod.mk.injEq] at h
    exact ⟨i, rfl, h.1, h.2.1, h.2.2⟩

theorem take_eq_succ' (la lb : List Int) (i : Nat) (hi : i < la.length) (hl : la.length = lb.length) (h : la.take i = lb.take i) : (la.take (i + 1) = lb.take (i + 1)) ↔ la.getD i 0 = lb.getD i 0 := by
  rw [List.take_add_one, List.take_add_one, List.getElem?_eq_getElem hi, List.getElem?_eq_getElem (show i < lb.length by omega), h, getD_elem hi, getD_elem (show i < lb.length by omega)]
  constructor
  · intro e
    simpa using List.append_cancel_left e
  · intro e
    rw [e]

set_option maxHeartbeats 2000000 in
set_option maxRecDepth 100000 in
theorem sameInts_any (A A' : Option Addr) (la lb : List Int) (ca cb B B' : Nat) (w : World) (ha : IntsIn w B A la) (hb : IntsIn w B' A' lb) (h63 : la.length ≤ 9223372036854775807) :
    Calls Tryz.prog 93 #[.slice A la.length ca, .slice A' lb.length cb] w fun e w' => e = .returned (.bool (decide (la = lb))) ∧ ∃ q, w' = w.drewN q := by
  by_cases hl : la.length = lb.length
  · have hlz : ((la.length : Int) != (lb.length : Int)) = false := by simp [hl]
    obtain ⟨ANS, hANS⟩ : ∃ ANS, decide (la = lb) = ANS := ⟨_, rfl⟩
    rw [hANS]
    have HA := hid ha
    have HB := hid hb
    have HL := hid hl
    have HANS := hid hANS
    clear ha hb hl hANS
    go_enter Tryz.func93, Tryz.ntmps93
    go_wp2
    go_loopw [5] (fun iv wr => ∃ i : Nat, iv = .int .i64 (i : Int) ∧ i ≤ la.length ∧ Hid (la.take i = lb.take i) ∧ ∃ q, wr = w.drewN q) (fun iv _ => la.length - (RowKit.intOf iv).toNat)
    case atStart => exact ⟨0, rfl, Nat.zero_le _, hid rfl, 0, rfl⟩
    case round =>
      obtain ⟨i, rfl, hi, ht, q, rfl⟩ := hrel
      by_cases hlt : i < la.length
      · have hltz : (i : Int) < (la.length : Int) := by omega
        have hlt' : i < lb.length := by rw [← HL.out]; exact hlt
        have hltz' : (i : Int) < (lb.length : Int) := by omega
        obtain ⟨b1, o1, rfl, _, hc1⟩ := HA.out.at_ hlt
        obtain ⟨b2, o2, rfl, _, hc2⟩ := HB.out.at_ hlt'
        have hiff := take_eq_succ' la lb i hlt HL.out ht.out
        obtain ⟨x, hx⟩ : ∃ x, la.getD i 0 = x := ⟨_, rfl⟩
        obtain ⟨y, hy⟩ : ∃ y, lb.getD i 0 = y := ⟨_, rfl⟩
        rw [hx] at hc1 hiff
        rw [hy] at hc2 hiff
        have HIFF := hid hiff
        have HX := hid hx
        have HY := hid hy
        by_cases hxy : x = y
        · have hbe : (x != y) = false := by simpa using hxy
          have hbe2 : (x == y) = true := by simpa using hxy
          have HXY := hid hxy
          clear hiff hx hy hxy
          go_wp2
          go_quiet (fail)
          go_wp2
          go_roundw
          case rel => exact ⟨i + 1, by go_num, by omega, hid (HIFF.out.2 HXY.out), q + nq, rfl⟩
          case measure => simp [RowKit.intOf]; omega
        · have hbe : (x != y) = true := by simpa using hxy
          have hbe2 : (x == y) = false := by simpa using hxy
          have hf : ANS = false := by
            rw [← HANS.out]
            apply decide_eq_false
            intro e
            subst e
            exact hxy (by rw [← HX.out, ← HY.out])
          subst hf
          clear hiff hx hy hxy
          go_wp2
          go_quiet (fail)
          go_wp2
          go_ret
          exact ⟨rfl, q + nq, by rw [World.drewN_drewN]⟩
      · have hltz : ¬ (i : Int) < (la.length : Int) := by omega
        have hf : ANS = true := by
          rw [← HANS.out]
          apply decide_eq_true
          have h := ht.out
          rwa [List.take_of_length_le (by omega), List.take_of_length_le (by have := HL.out; omega)] at h
        subst hf
        go_wp2
        go_ret
        exact ⟨rfl, q, rfl⟩
  · have hlz : ((la.length : Int) != (lb.length : Int)) = true := by simp; omega
    have hf : decide (la = lb) = false := decide_eq_false (fun e => hl (by rw [e]))
    rw [hf]
    clear ha hb
    go_enter Tryz.func93, Tryz.ntmps93
    go_wp2
    go_ret
    exact ⟨rfl, 0, rfl⟩
end Go.Proofs.YtigdcgklpapfbaaGreatDoor

set_option linter.unusedVariables false
namespace Go.Proofs.YtigdcgklpapfbaaGreatDoor
open Go Go.Proofs Go.RowKit Go.Lib

abbrev Str := List UInt8
abbrev lst (s : ByteArray) : Str := s.data.toList
def ba (s : Str) : ByteArray := ⟨s.toArray⟩
theorem ba_lst (s : ByteArray) : ba (lst s) = s := by cases s; rfl
theorem lst_ba (l : Str) : lst (ba l) = l := rfl
theorem lst_extract (s : ByteArray) (a b : Nat) : lst (s.extract a b) = ((lst s).take b).drop a := by
  simp [lst, ByteArray.data_extract, List.extract_eq_take_drop, List.drop_take]
theorem str_no {s : ByteArray} (h : 0 < s.size) : (s.toList == []) = false ∧ (!s.toList.isEmpty) = true ∧ (s.toList != []) = true ∧ ¬ s.toList = [] := by
  have hne : s.toList ≠ [] := fun e => by
    rw [Lib.toList_data] at e
    rw [Lib.size_eq, e] at h
    simp at h
  refine ⟨by simpa using hne, by simpa using hne, by simpa using hne, hne⟩
theorem str_yes {s : ByteArray} (h : ¬ 0 < s.size) : (s.toList == []) = true ∧ (!s.toList.isEmpty) = false ∧ (s.toList != []) = false ∧ s.toList = [] := by
  have e : s.toList = [] := by
    rw [Lib.toList_data]
    exact List.eq_nil_of_length_eq_zero (by rw [← Lib.size_eq]; omega)
  refine ⟨by simpa using e, by simp [e], by simp [e], e⟩
theorem lst_ne {s : ByteArray} (h : 0 < s.size) : lst s ≠ [] := fun e => by
  have h' : 0 < (lst s).length := by rw [← Lib.size_eq]; exact h
  rw [e] at h'
  simp at h'
theorem lst_nil {s : ByteArray} (h : ¬ 0 < s.size) : lst s = [] := List.eq_nil_of_length_eq_zero (by rw [← Lib.size_eq]; omega)

/-! ### cutting at a byte -/
def bef (c : UInt8) : Str → Str
  | [] => []
  | x :: r => if x = c then [] else x :: bef c r
def aft (c : UInt8) : Str → Str
  | [] => []
  | x :: r => if x = c then r else aft c r
def has (c : UInt8) : Str → Bool
  | [] => false
  | x :: r => x == c || has c r
theorem bef_le (c : UInt8) : ∀ s, (bef c s).length ≤ s.length
  | [] => Nat.le_refl _
  | x :: r => by
    unfold bef
    have := bef_le c r
    split <;> simp <;> omega
theorem bef_miss (c : UInt8) : ∀ s, has c s = false → bef c s = s ∧ aft c s = []
  | [], _ => ⟨rfl, rfl⟩
  | x :: r, h => by
    simp [has] at h
    have := bef_miss c r h.2
    simp [bef, aft, h.1, this.1, this.2]
theorem bef_hit (c : UInt8) : ∀ s, has c s = true → s = bef c s ++ c :: aft c s
  | [], h => by simp [has] at h
  | x :: r, h => by
    by_cases e : x = c
    · simp [bef, aft, e]
    · have h' : has c r = true := by simpa [has, e] using h
      simp only [bef, aft, if_neg e, List.cons_append]
      rw [← bef_hit c r h']
theorem bef_take (c : UInt8) (s : Str) : s.take (bef c s).length = bef c s := by
  cases hc : has c s with
  | true =>
    have h0 := bef_hit c s hc
    generalize bef c s = p at h0 ⊢
    rw [h0]
    simp
  | false => rw [(bef_miss c s hc).1, List.take_of_length_le (Nat.le_refl _)]
theorem aft_drop (c : UInt8) (s : Str) (h : has c s = true) : s.drop ((bef c s).length + 1) = aft c s := by
  have h0 := bef_hit c s h
  generalize bef c s = p at h0 ⊢
  generalize aft c s = q at h0 ⊢
  rw [h0]
  simp
theorem indexByte_bef (c : UInt8) : ∀ s, Lib.indexByte s c = if has c s = true then ((bef c s).length : Int) else -1
  | [] => rfl
  | x :: r => by
    have ih := indexByte_bef c r
    unfold Lib.indexByte
    by_cases e : x = c
    · simp [e, has, bef]
    · have e' : (x == c) = false := by simpa using e
      simp only [e', has, bef, if_neg e, Bool.false_or, Bool.false_eq_true, if_false]
      rw [ih]
      by_cases hh : has c r = true
      · rw [if_pos hh, if_pos hh]
        rw [if_neg (by simp)]
        simp
      · rw [if_neg hh, if_neg hh]
        rfl

theorem has_app (c : UInt8) : ∀ s t, has c (s ++ t) = (has c s || has c t)
  | [], t => by simp [has]
  | x :: s, t => by simp [has, has_app c s t, Bool.or_assoc]
def strV (s : Str) : Value := .string ⟨s.toArray⟩
/-- The slice at A holds the strings l, in a block with P. -/
def StrsIn (w : World) (P : Nat → Prop) (A : Option Addr) (l : List Str) : Prop :=
  l = [] ∨ ∃ b off, A = some ⟨b, off, none⟩ ∧ P b ∧ ∀ (j : Nat) (s : Str), l[j]? = some s → w.cell? ⟨b, off + j, none⟩ = some (strV s)
theorem StrsIn.kept {w w' : World} {P : Nat → Prop} {A : Option Addr} {l : List Str} (h : StrsIn w P A l) (hk : ∀ b, P b → w'.heap[b]? = w.heap[b]?) : StrsIn w' P A l := by
  rcases h with h | ⟨b, off, hA, hP, hc⟩
  · exact .inl h
  · exact .inr ⟨b, off, hA, hP, fun j s hj => (World.cell?_of_block (w := w) (hk b hP)).trans (hc j s hj)⟩
theorem StrsIn.mono {w : World} {P P' : Nat → Prop} {A : Option Addr} {l : List Str} (h : StrsIn w P A l) (hP : ∀ b, P b → P' b) : StrsIn w P' A l := by
  rcases h with h | ⟨b, off, hA, hb, hc⟩
  · exact .inl h
  · exact .inr ⟨b, off, hA, hP b hb, hc⟩
theorem StrsIn.at_ {w : World} {P : Nat → Prop} {A : Option Addr} {l : List Str} (h : StrsIn w P A l) {k : Nat} (hk : k < l.length) :
    ∃ b off, A = some ⟨b, off, none⟩ ∧ P b ∧ w.cell? ⟨b, off + k, none⟩ = some (strV l[k]) := by
  rcases h with h | ⟨b, off, hA, hP, hc⟩
  · subst h; simp at hk
  · exact ⟨b, off, hA, hP, hc k _ (List.getElem?_eq_getElem hk)⟩

theorem infoStr : (Tryz.prog.info? 9).map (fun i => (i.zero, i.size, i.bytes)) = some (some (.string ⟨#[]⟩), 1, 16) := by kernel_rfl
def strVals (l : List Str) : List Value := l.map strV
theorem strVals_len (l : List Str) : (strVals l).length = l.length := by simp [strVals]
theorem strVals_app (a b : List Str) : strVals (a ++ b) = strVals a ++ strVals b := by simp [strVals]
/-- A row of strings that the call owns. -/
def StrRow (w : World) (B : Nat) (v : Value) (l : List Str) : Prop := w.ownsRow B 9 1 v l.length (strVals l)
theorem StrRow.strsIn {w : World} {B : Nat} {v : Value} {l : List Str} (h : StrRow w B v l) : ∃ A c, v = .slice A l.length c ∧ l.length ≤ c ∧ c ≤ 9223372036854775807 ∧ StrsIn w (fun b => B ≤ b ∧ b < w.heap.size) A l := by
  have h' := h
  rcases h.2 with ⟨hv, h0⟩ | ⟨g, cap, cur, hv, hB, hg, h1, h2, _⟩
  · have hl : l = [] := List.eq_nil_of_length_eq_zero h0
    subst hl
    exact ⟨none, 0, hv, Nat.le_refl _, by omega, .inl rfl⟩
  · refine ⟨_, cap, hv, h1, by unfold maxLen at h2; omega, .inr ⟨g, 0, rfl, ⟨hB, (Array.getElem?_eq_some_iff.1 hg).1⟩, fun j s hj => ?_⟩⟩
    have := World.ownsRow.cells h' (g := g) (by rw [hv]; rfl) j (strV s) (by unfold strVals; rw [List.getElem?_map, hj]; rfl)
    rwa [Addr.add_lit] at this
theorem StrRow.mono {w : World} {B B' : Nat} {v : Value} {l : List Str} (h : StrRow w B v l) (hB : B' ≤ B) : StrRow w B' v l := by
  obtain ⟨h1, h2⟩ := h
  refine ⟨h1, ?_⟩
  rcases h2 with h2 | ⟨g, cap, cur, hv, hg, r⟩
  · exact .inl h2
  · exact .inr ⟨g, cap, cur, hv, by omega, r⟩
theorem one_str (s : ByteArray) : ∀ u ∈ [Value.string s], u.oneCell' = true := by
  intro u hu
  simp at hu
  subst hu
  rfl


end Go.Proofs.YtigdcgklpapfbaaGreatDoor

set_option linter.unusedVariables false
namespace Go.Proofs.YtigdcgklpapfbaaGreatDoor
open Go Go.Lib

/-! ### bits -/
def bitB (s k : Nat) : Bool := decide (s / 2 ^ k % 2 = 1)
theorem bitB_test (s k : Nat) : bitB s k = s.testBit k := by unfold bitB; rw [Nat.testBit_eq_decide_div_mod_eq]
theorem bitB_top {s n k : Nat} (hs : s < 2 ^ n) (hk : n ≤ k) : bitB s k = false := by
  rw [bitB_test]
  exact Nat.testBit_lt_two_pow (Nat.lt_of_lt_of_le hs (Nat.pow_le_pow_right (by omega) hk))
/-- The weeks of a set among the first k. -/
def weeksP (s : Nat) : Nat → List Nat
  | 0 => []
  | k + 1 => if bitB s k = true then weeksP s k ++ [k + 1] else weeksP s k
theorem weeksP_yes {s k : Nat} (h : bitB s k = true) : weeksP s (k + 1) = weeksP s k ++ [k + 1] := if_pos h
theorem weeksP_no {s k : Nat} (h : bitB s k = false) : weeksP s (k + 1) = weeksP s k := if_neg (by rw [h]; simp)
theorem weeksP_len (s : Nat) : ∀ k, (weeksP s k).length ≤ k
  | 0 => Nat.le_refl _
  | k + 1 => by
    have := weeksP_len s k
    unfold weeksP
    split
    · simp; omega
    · omega
theorem mem_weeksP (s : Nat) : ∀ k w, w ∈ weeksP s k ↔ 1 ≤ w ∧ w ≤ k ∧ bitB s (w - 1) = true
  | 0, w => by simp [weeksP]; omega
  | k + 1, w => by
    have ih := mem_weeksP s k w
    cases h : bitB s k with
    | true =>
      rw [weeksP_yes h, List.mem_append, ih]
      simp only [List.mem_singleton]
      constructor
      · rintro (⟨a, b, c⟩ | rfl)
        · exact ⟨a, by omega, c⟩
        · exact ⟨by omega, by omega, h⟩
      · rintro ⟨a, b, c⟩
        rcases Nat.lt_or_ge k w with hw | hw
        · exact .inr (by omega)
        · exact .inl ⟨a, hw, c⟩
    | false =>
      rw [weeksP_no h, ih]
      constructor
      · rintro ⟨a, b, c⟩
        exact ⟨a, by omega, c⟩
      · rintro ⟨a, b, c⟩
        refine ⟨a, ?_, c⟩
        rcases Nat.lt_or_ge k w with hw | hw
        · obtain rfl : w = k + 1 := by omega
          rw [Nat.add_sub_cancel, h] at c
          simp at c
        · exact hw
def castL (l : List Nat) : List Int := l.map fun (n : Nat) => (n : Int)
theorem castL_app (a b : List Nat) : castL (a ++ b) = castL a ++ castL b := by simp [castL]
theorem castL_len (a : List Nat) : (castL a).length = a.length := by simp [castL]
def setOk (S : Int) : Bool := decide (1 ≤ S ∧ S < 1048576)
/-- What Weeks hands back. -/
def weeksM (S : Int) : List Int := if setOk S = true then castL (weeksP S.toNat 20) else []

/-! ### named sets, spans -/
def inB (k n w : Nat) : Bool :=
  match k with
  | 0 => true
  | 1 => decide (w % 2 = 1)
  | 2 => decide (w % 2 = 0)
  | 3 => decide (w ≤ (n + 1) / 2)
  | _ => decide ((n + 1) / 2 < w)
def nmP (k n : Nat) : Nat → Nat
  | 0 => 0
  | w + 1 => if inB k n (w + 1) = true then nmP k n w + 2 ^ w else nmP k n w
def nmM (k n : Nat) : Nat := nmP k n n
theorem nmP_lt (k n : Nat) : ∀ w, nmP k n w < 2 ^ w
  | 0 => by simp [nmP]
  | w + 1 => by
    have := nmP_lt k n w
    rw [Nat.pow_succ]
    unfold nmP
    split <;> omega
def spanN (a b : Nat) : Nat := 2 ^ b - 2 ^ (a - 1)
theorem pow_le {a b : Nat} (h : a ≤ b) : 2 ^ a ≤ 2 ^ b := Nat.pow_le_pow_right (by omega) h
theorem spanN_lt (a b : Nat) : spanN a b < 2 ^ b := by
  have := Nat.two_pow_pos (a - 1)
  have := Nat.two_pow_pos b
  unfold spanN
  omega
theorem span_bit {a b : Nat} (h1 : 1 ≤ a) (hab : a ≤ b + 1) (i : Nat) : (spanN a b).testBit i = decide (a ≤ i + 1 ∧ i < b) := by
  obtain ⟨c, rfl⟩ : ∃ c, a = c + 1 := ⟨a - 1, by omega⟩
  obtain ⟨d, rfl⟩ : ∃ d, b = c + d := ⟨b - c, by omega⟩
  have e : spanN (c + 1) (c + d) = 2 ^ c * (2 ^ d - 1) := by
    unfold spanN
    rw [Nat.add_sub_cancel, Nat.pow_add, Nat.mul_sub_one]
  rw [e, Nat.testBit_two_pow_mul, Nat.testBit_two_pow_sub_one]
  rw [← Bool.decide_and]
  apply decide_eq_decide.2
  omega

/-! ### items -/
def wordS : Nat → Str
  | 0 => [97, 108, 108]
  | 1 => [111, 100, 100]
  | 2 => [101, 118, 101, 110]
  | 3 => [102, 105, 114, 115, 116]
  | _ => [115, 101, 99, 111, 110, 100]
def kindOf (x : Str) : Option Nat := (List.range 5).find? fun k => decide (wordS k = x)
/-- A number of one or two digits; 0 for others. -/
def smallN : Str → Nat
  | [a] => if 49 ≤ a.toNat ∧ a.toNat ≤ 57 then a.toNat - 48 else 0
  | [a, b] => if (49 ≤ a.toNat ∧ a.toNat ≤ 57) ∧ 48 ≤ b.toNat ∧ b.toNat ≤ 57 then 10 * (a.toNat - 48) + (b.toNat - 48) else 0
  | _ => 0
theorem smallN_lt (s : Str) : smallN s < 100 := by
  unfold smallN
  split
  · split <;> omega
  · split <;> omega
  · omega
def fromN (x : Str) : Nat := smallN (bef 45 x)
def toN (x : Str) : Nat := if has 45 x = true then smallN (aft 45 x) else smallN (bef 45 x)
def numM (x : Str) (n : Nat) : Nat × Int :=
  if fromN x = 0 ∨ toN x = 0 then (0, 4) else if toN x < fromN x ∨ n < toN x then (0, 3) else (spanN (fromN x) (toN x), 0)
/-- What an item means, or its error. -/
def itemM (x : Str) (n : Nat) : Nat × Int :=
  match kindOf x with
  | some k => (nmM k n, 0)
  | none => numM x n
theorem item_lt (x : Str) (n : Nat) : (itemM x n).1 < 2 ^ n := by
  have hp := Nat.two_pow_pos n
  unfold itemM
  split
  · exact nmP_lt _ _ _
  · unfold numM
    split
    · exact hp
    · split
      · exact hp
      · rename_i h
        exact Nat.lt_of_lt_of_le (spanN_lt _ _) (pow_le (by omega))
/-- The parts between the commas. -/
def splitL : Str → List Str
  | [] => [[]]
  | c :: s => if c = 44 then [] :: splitL s else (c :: (splitL s).headD []) :: (splitL s).tail
/-- The union of the items behind those that have come, or the first error. -/
def goP (n : Nat) : List Str → Nat → Nat × Int
  | [], acc => (acc, 0)
  | x :: xs, acc => if (itemM x n).2 ≠ 0 then (0, (itemM x n).2) else goP n xs (acc ||| (itemM x n).1)
theorem goP_ok {n : Nat} {x : Str} (h : (itemM x n).2 = 0) (xs : List Str) (acc : Nat) : goP n (x :: xs) acc = goP n xs (acc ||| (itemM x n).1) := if_neg (by rw [h]; simp)
theorem goP_err {n : Nat} {x : Str} (h : (itemM x n).2 ≠ 0) (xs : List Str) (acc : Nat) : goP n (x :: xs) acc = (0, (itemM x n).2) := if_pos h
theorem goP_lt (n : Nat) : ∀ xs acc, acc < 2 ^ n → (goP n xs acc).1 < 2 ^ n
  | [], acc, h => h
  | x :: xs, acc, h => by
    by_cases hx : (itemM x n).2 = 0
    · rw [goP_ok hx]
      exact goP_lt n xs _ (Nat.or_lt_two_pow h (item_lt x n))
    · rw [goP_err hx]
      exact Nat.two_pow_pos n
theorem goP_app (n : Nat) : ∀ xs ys acc, (goP n xs acc).2 = 0 → goP n (xs ++ ys) acc = goP n ys (goP n xs acc).1
  | [], ys, acc, _ => rfl
  | x :: xs, ys, acc, h => by
    rw [List.cons_append]
    by_cases hx : (itemM x n).2 = 0
    · rw [goP_ok hx] at h ⊢
      rw [goP_ok hx]
      exact goP_app n xs ys _ h
    · rw [goP_err hx] at h
      exact absurd h hx
/-- What Parse hands back. -/
def parseN (s : Str) (n : Nat) : Nat × Int := if (goP n (splitL s) 0).2 ≠ 0 then (0, (goP n (splitL s) 0).2) else if (goP n (splitL s) 0).1 = 0 then (0, 16) else ((goP n (splitL s) 0).1, 0)
def parseM (s : Str) (N : Int) : Nat × Int := if 1 ≤ N ∧ N ≤ 20 then parseN s N.toNat else (0, 3)

/-! ### runs -/
/-- How many of a list go on from a number. -/
def cnt : Nat → List Nat → Nat
  | _, [] => 0
  | a, b :: l => if b = a + 1 then cnt b l + 1 else 0
theorem cnt_le : ∀ (l : List Nat) (a : Nat), cnt a l ≤ l.length
  | [], _ => Nat.le_refl _
  | b :: l, a => by
    have := cnt_le l b
    unfold cnt
    split
    · simp; omega
    · omega
theorem cnt_get : ∀ (l : List Nat) (a j : Nat), j < cnt a l → l[j]? = some (a + 1 + j)
  | [], _, j, h => by simp [cnt] at h
  | b :: l, a, j, h => by
    unfold cnt at h
    split at h
    · rename_i hb
      cases j with
      | zero => simp [hb]
      | succ j =>
        rw [List.getElem?_cons_succ, cnt_get l b j (by omega), hb]
        congr 1
        omega
    · omega
theorem cnt_end : ∀ (l : List Nat) (a : Nat), l[cnt a l]? ≠ some (a + 1 + cnt a l)
  | [], a => by simp [cnt]
  | b :: l, a => by
    unfold cnt
    split
    · rename_i hb
      rw [List.getElem?_cons_succ]
      have := cnt_end l b
      rw [show a + 1 + (cnt b l + 1) = b + 1 + cnt b l by omega]
      exact this
    · rename_i hb
      simp only [List.getElem?_cons_zero, Nat.add_zero, ne_eq, Option.some.injEq]
      exact hb
def runs : List Nat → List (Nat × Nat)
  | [] => []
  | a :: l => (a, a + cnt a l) :: runs (l.drop (cnt a l))
termination_by l => l.length
decreasing_by simp; omega
theorem mem_runs : ∀ (k : Nat) (l : List Nat), l.length ≤ k → ∀ x, x ∈ l ↔ ∃ r ∈ runs l, r.1 ≤ x ∧ x ≤ r.2
  | 0, l, hl, x => by
    obtain rfl : l = [] := List.eq_nil_of_length_eq_zero (by omega)
    simp [runs]
  | k + 1, [], hl, x => by simp [runs]
  | k + 1, a :: l, hl, x => by
    have ih := mem_runs k (l.drop (cnt a l)) (by simp at hl ⊢; omega) x
    have hsp : l = l.take (cnt a l) ++ l.drop (cnt a l) := (List.take_append_drop _ _).symm
    have hle := cnt_le l a
    rw [runs]
    simp only [List.mem_cons, exists_eq_or_imp]
    rw [← ih]
    have htk : x ∈ l.take (cnt a l) ↔ a + 1 ≤ x ∧ x ≤ a + cnt a l := by
      rw [List.mem_iff_getElem?]
      constructor
      · rintro ⟨j, hj⟩
        rw [List.getElem?_take] at hj
        split at hj
        · rename_i hjc
          rw [cnt_get l a j hjc] at hj
          injection hj with hj
          omega
        · simp at hj
      · rintro ⟨h1, h2⟩
        refine ⟨x - (a + 1), ?_⟩
        rw [List.getElem?_take, if_pos (by omega), cnt_get l a _ (by omega)]
        congr 1
        omega
    conv => lhs; rw [hsp]
    rw [List.mem_append, htk]
    constructor
    · rintro (rfl | ⟨h1, h2⟩ | h)
      · exact .inl ⟨by omega, by omega⟩
      · exact .inl ⟨by omega, by omega⟩
      · exact .inr h
    · rintro (⟨h1, h2⟩ | h)
      · rcases Nat.lt_or_ge a x with h | h
        · exact .inr (.inl ⟨by omega, h2⟩)
        · exact .inl (by omega)
      · exact .inr (.inr h)
theorem runs_mem : ∀ (k : Nat) (l : List Nat), l.length ≤ k → ∀ r ∈ runs l, r.1 ∈ l ∧ r.1 ≤ r.2 ∧ r.2 ∈ l
  | 0, l, hl, r, h => by
    obtain rfl : l = [] := List.eq_nil_of_length_eq_zero (by omega)
    simp [runs] at h
  | k + 1, [], hl, r, h => by simp [runs] at h
  | k + 1, a :: l, hl, r, h => by
    rw [runs] at h
    rcases List.mem_cons.1 h with rfl | h
    · refine ⟨by simp, by simp, ?_⟩
      rcases Nat.eq_zero_or_pos (cnt a l) with h0 | h0
      · rw [h0]; simp
      · refine List.mem_cons_of_mem _ (List.mem_iff_getElem?.2 ⟨cnt a l - 1, ?_⟩)
        rw [cnt_get l a _ (by omega)]
        congr 1
        show _ = a + cnt a l
        omega
    · obtain ⟨h1, h2, h3⟩ := runs_mem k (l.drop (cnt a l)) (by simp at hl ⊢; omega) r h
      exact ⟨List.mem_cons_of_mem _ (List.mem_of_mem_drop h1), h2, List.mem_cons_of_mem _ (List.mem_of_mem_drop h3)⟩
/-- A number below 100 in decimal. -/
def dec2 (u : Nat) : Str := if u < 10 then [UInt8.ofNat (48 + u)] else [UInt8.ofNat (48 + u / 10), UInt8.ofNat (48 + u % 10)]
def itemT (a b : Nat) : Str := if a = b then dec2 a else dec2 a ++ 45 :: dec2 b
def joinC : List Str → Str
  | [] => []
  | [x] => x
  | x :: y :: l => x ++ 44 :: joinC (y :: l)
def textM (s : Nat) : Str := joinC ((runs (weeksP s 20)).map fun r => itemT r.1 r.2)
def nameK (s n : Nat) : Option Nat := (List.range 5).find? fun k => decide (nmM k n = s)
def validM (S N : Int) : Bool := decide ((1 ≤ N ∧ N ≤ 20) ∧ 1 ≤ S ∧ S < 2 ^ N.toNat)
/-- What Format hands back. -/
def formN (s n : Nat) : Str := match nameK s n with | some k => wordS k | none => textM s
def formM (S N : Int) : Str × Int := if validM S N = true then (formN S.toNat N.toNat, 0) else ([], 1)
end Go.Proofs.YtigdcgklpapfbaaGreatDoor

set_option linter.unusedVariables false
namespace Go.Proofs.YtigdcgklpapfbaaGreatDoor
open Go Go.Proofs Go.RowKit Go.Lib

def lenB (N : Int) : Bool := decide (1 ≤ N ∧ N ≤ 20)
set_option maxHeartbeats 1000000 in
theorem isLength_any (N : Int) (w : World) : Calls Tryz.prog 149 #[.int .i64 N] w fun e w' => e = .returned (.bool (lenB N)) ∧ w = w' := by
  unfold lenB
  by_cases h0 : 1 ≤ N
  · by_cases h1 : N ≤ 20
    · rw [decide_eq_true ⟨h0, h1⟩]
      go_enter Tryz.func149, Tryz.ntmps149
      go_wp2
      go_ret
      exact ⟨rfl, rfl⟩
    · rw [decide_eq_false (fun h => h1 h.2)]
      go_enter Tryz.func149, Tryz.ntmps149
      go_wp2
      go_ret
      exact ⟨rfl, rfl⟩
  · rw [decide_eq_false (fun h => h0 h.1)]
    go_enter Tryz.func149, Tryz.ntmps149
    go_wp2
    go_ret
    exact ⟨rfl, rfl⟩
theorem powI (b : Nat) (h : b ≤ 20) : (1 : Int) ≤ 2 ^ b ∧ (2 : Int) ^ b ≤ 1048576 := by
  have h1 : 2 ^ b ≤ 2 ^ 20 := pow_le h
  have h2 := Nat.two_pow_pos b
  have e : (2 : Int) ^ b = ((2 ^ b : Nat) : Int) := by rw [Int.natCast_pow]; rfl
  omega
theorem spanI (a b : Nat) (h : a ≤ b) : (2 : Int) ^ b - 2 ^ a = ((spanN (a + 1) b : Nat) : Int) := by
  have h1 := pow_le h
  have e : (2 : Int) ^ b = ((2 ^ b : Nat) : Int) := by rw [Int.natCast_pow]; rfl
  have e2 : (2 : Int) ^ a = ((2 ^ a : Nat) : Int) := by rw [Int.natCast_pow]; rfl
  unfold spanN
  rw [Nat.add_sub_cancel]
  omega
theorem ret_int {k : IntKind} {a b : Int} (h : a = b) : Ending.returned (.int k a) = .returned (.int k b) := by rw [h]
set_option maxHeartbeats 1000000 in
theorem span_any (a b : Nat) (hb : b ≤ 20) (hab : a ≤ b) (w : World) : Calls Tryz.prog 150 #[.int .i64 ((a : Int) + 1), .int .i64 (b : Int)] w fun e w' => e = .returned (.int .i64 ((spanN (a + 1) b : Nat) : Int)) ∧ ∃ n, w' = w.drewN n := by
  have hp := powI a (by omega)
  have hq := powI b hb
  have hs := spanI a b hab
  have e1 : IntKind.i64.wrap ((a : Int) + 1 - 1) = (a : Int) := by rw [Int.add_sub_cancel]; exact IntWalk.i64_in _ (by omega)
  have e2 : IntKind.i64.wrap ((2 : Int) ^ b - 2 ^ a) = (2 : Int) ^ b - 2 ^ a := IntWalk.i64_in _ (by omega)
  rw [← hs]
  clear hs
  go_enter Tryz.func150, Tryz.ntmps150
  go_wp2
  go_quiet (fail)
  go_wp2
  go_ret
  exact ⟨rfl, _, rfl⟩
end Go.Proofs.YtigdcgklpapfbaaGreatDoor
