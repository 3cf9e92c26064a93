/-
  The made numbers: Mod, Light, Roll, Next, One of package timetablemade, for any list of numbers. Conditions: the numbers lie in memory as a slice of ints.
-/
import Derived.Test.YtcpkefjijinhiaaDoorProg
import Derived.WalkKit
import Derived.WalkSpells
import Derived.WalkLawsBesides
import Derived.Lib.Hide
import Derived.Deep.QuietTactic
import Derived.BigQuiet
set_option linter.unusedVariables false
namespace Go.Proofs.YtcpkefjijinhiaaDoor
open Go Go.Proofs Go.RowKit Go.Lib

/-- The slice at A holds the numbers L, in blocks below B. -/
def IntsIn (w : World) (B : Nat) (A : Option Addr) (L : List Int) : Prop :=
  L = [] ∨ ∃ b off, A = some ⟨b, off, none⟩ ∧ b < B ∧ ∀ (j : Nat) (v : Int), L[j]? = some v → w.cell? ⟨b, off + j, none⟩ = some (.int .i64 v)
theorem IntsIn.below {w w' : World} {B : Nat} {A : Option Addr} {L : List Int} (h : IntsIn w B A L) (hb : Below B w w') : IntsIn w' B A L := by
  rcases h with h | ⟨b, off, hA, hlt, hc⟩
  · exact .inl h
  · exact .inr ⟨b, off, hA, hlt, fun j v hv => (hb.cell (p := ⟨b, off + j, none⟩) hlt).trans (hc j v hv)⟩
theorem IntsIn.mono {w : World} {B B' : Nat} {A : Option Addr} {L : List Int} (h : IntsIn w B A L) (hB : B ≤ B') : IntsIn w B' A L := by
  rcases h with h | ⟨b, off, hA, hlt, hc⟩
  · exact .inl h
  · exact .inr ⟨b, off, hA, by omega, hc⟩

/-- Two worlds that differ in block g alone (and in what has been drawn). -/
structure Rolled (g : Nat) (w w' : World) : Prop where
  os : w'.os = w.os
  tape : w'.tape = w.tape
  output : w'.output = w.output
  size : w'.heap.size = w.heap.size
  block : ∀ k, k ≠ g → w'.heap[k]? = w.heap[k]?
theorem Rolled.refl (g : Nat) (w : World) : Rolled g w w := ⟨rfl, rfl, rfl, rfl, fun _ _ => rfl⟩
theorem Rolled.trans {g : Nat} {a b c : World} (h : Rolled g a b) (k : Rolled g b c) : Rolled g a c :=
  ⟨k.os.trans h.os, k.tape.trans h.tape, k.output.trans h.output, k.size.trans h.size, fun i hi => (k.block i hi).trans (h.block i hi)⟩
theorem Rolled.drawn (g : Nat) (w : World) : ∀ n, Rolled g w (w.drewN n)
  | 0 => Rolled.refl g w
  | n + 1 => ⟨(Rolled.drawn g w n).os, (Rolled.drawn g w n).tape, (Rolled.drawn g w n).output, (Rolled.drawn g w n).size, (Rolled.drawn g w n).block⟩
theorem Rolled.set (g i : Nat) (w : World) (v : Value) : Rolled g w (w.setCell ⟨g, i, none⟩ v) :=
  ⟨by simp [World.setCell], by simp [World.setCell], by simp [World.setCell], by simp [World.setCell], fun k hk => Below.heap_setCell w ⟨g, i, none⟩ v k hk⟩
theorem Rolled.below {g B : Nat} {w w' : World} (h : Rolled g w w') (hB : B ≤ g) : Below B w w' :=
  ⟨h.os, h.tape, h.output, by rw [h.size]; exact Nat.le_refl _, fun k hk => h.block k (by omega)⟩
theorem Rolled.row {g B e z n : Nat} {w w' : World} (h : Rolled g w w') {v : Value} {xs : List Value} (hr : w.ownsRow B e z v n xs) (hv : v.ownBlock ≠ some g) : w'.ownsRow B e z v n xs := by
  obtain ⟨h1, h2⟩ := hr
  refine ⟨h1, ?_⟩
  rcases h2 with h2 | ⟨k, cap, cur, hk, hg, hh, r⟩
  · exact .inl h2
  · refine .inr ⟨k, cap, cur, hk, hg, (h.block k ?_).trans hh, r⟩
    intro e
    subst e
    exact hv (by rw [hk]; rfl)

/-- Dice in block g, over the numbers L, of which so many have been given out. -/
structure DiceAt (w : World) (g : Nat) (A : Option Addr) (L : List Int) (c k : Nat) : Prop where
  cells : w.heap[g]? = some (.cells #[.slice A L.length c, .int .i64 (k : Int)] 60 (0, 0))
  le : k ≤ L.length
  ints : IntsIn w g A L
  few : L.length ≤ 400
theorem DiceAt.list {w : World} {g c k : Nat} {A : Option Addr} {L : List Int} (h : DiceAt w g A L c k) : w.cell? ⟨g, 0, none⟩ = some (.slice A L.length c) := by
  rw [Lib.cell_of_heap h.cells]
  rfl
theorem DiceAt.at_ {w : World} {g c k : Nat} {A : Option Addr} {L : List Int} (h : DiceAt w g A L c k) : w.cell? ⟨g, 1, none⟩ = some (.int .i64 (k : Int)) := by
  rw [Lib.cell_of_heap h.cells]
  rfl
theorem DiceAt.rolled {w w' : World} {g c k : Nat} {A : Option Addr} {L : List Int} (h : DiceAt w g A L c k) (hr : ∀ i, i ≤ g → w'.heap[i]? = w.heap[i]?) : DiceAt w' g A L c k := by
  refine ⟨(hr g (Nat.le_refl _)).trans h.cells, h.le, ?_, h.few⟩
  rcases h.ints with h' | ⟨b, off, hA, hlt, hc⟩
  · exact .inl h'
  · exact .inr ⟨b, off, hA, hlt, fun j v hv => (World.cell?_of_block (w := w) (hr b (by omega))).trans (hc j v hv)⟩

/-- What Mod returns. -/
def modI (n m : Int) : Int := if m < 1 then 0 else if n.tmod m < 0 then n.tmod m + m else n.tmod m
theorem modI_range (n m : Int) (h : 1 ≤ m) : 0 ≤ modI n m ∧ modI n m < m := by
  unfold modI
  have h1 := Int.tmod_lt_of_pos n (show (0 : Int) < m by omega)
  have h2 := Int.lt_tmod_of_pos n (show (0 : Int) < m by omega)
  rw [if_neg (by omega)]
  split <;> omega
set_option maxHeartbeats 1000000 in
theorem mod_any (n m : Int) (hm : m ≤ 4294967296) (w : World) : Calls Tryd.prog 26 #[.int .i64 n, .int .i64 m] w fun e w' => e = .returned (.int .i64 (modI n m)) ∧ w = w' := by
  by_cases h : m < 1
  · have e : modI n m = 0 := if_pos h
    rw [e]
    go_enter Tryd.func26, Tryd.ntmps26
    go_wp2
    go_ret
    exact ⟨rfl, rfl⟩
  · have hne : (m == 0) = false := by simp; omega
    have ha := Int.tmod_lt_of_pos n (show (0 : Int) < m by omega)
    have hb := Int.lt_tmod_of_pos n (show (0 : Int) < m by omega)
    have hE : modI n m = if n.tmod m < 0 then n.tmod m + m else n.tmod m := if_neg h
    have HE := hid hE
    clear hE
    go_enter Tryd.func26, Tryd.ntmps26
    go_wp2
    · have e : modI n m = n.tmod m + m := by rw [HE.out]; exact if_pos (by assumption)
      rw [e]
      go_ret
      exact ⟨rfl, rfl⟩
    · have e : modI n m = n.tmod m := by rw [HE.out]; exact if_neg (by omega)
      rw [e]
      go_ret
      exact ⟨rfl, rfl⟩
end Go.Proofs.YtcpkefjijinhiaaDoor
