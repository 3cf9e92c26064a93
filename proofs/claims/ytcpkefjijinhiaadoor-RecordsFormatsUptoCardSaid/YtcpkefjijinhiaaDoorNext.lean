/-
  The made numbers, one after the other: Next and One of timetablemade.Dice. Conditions: the dice lie in memory.
-/
import Derived.Test.YtcpkefjijinhiaaDoorDice
import Derived.Laws.Rows
set_option linter.unusedVariables false
namespace Go.Proofs.YtcpkefjijinhiaaDoor
open Go Go.Proofs Go.RowKit Go.Lib

theorem DiceAt.next {w : World} {g c k : Nat} {A : Option Addr} {L : List Int} (h : DiceAt w g A L c k) (hk : k < L.length) : DiceAt (w.setCell ⟨g, 1, none⟩ (.int .i64 ((k : Int) + 1))) g A L c (k + 1) := by
  refine ⟨?_, hk, ?_, h.few⟩
  · rw [heap_setCell_same w g 1 _ _ _ h.cells]
    rfl
  · rcases h.ints with h' | ⟨b, off, hA, hlt, hc⟩
    · exact .inl h'
    · refine .inr ⟨b, off, hA, hlt, fun j v hv => ?_⟩
      have : (w.setCell ⟨g, 1, none⟩ (.int .i64 ((k : Int) + 1))).heap[b]? = w.heap[b]? := Below.heap_setCell w _ _ b (by show b ≠ g; omega)
      exact (World.cell?_of_block (w := w) this).trans (hc j v hv)
theorem DiceAt.drawn {w : World} {g c k : Nat} {A : Option Addr} {L : List Int} (h : DiceAt w g A L c k) (n : Nat) : DiceAt (w.drewN n) g A L c k :=
  h.rolled fun i _ => by
    by_cases e : i = g + 1
    · exact (Rolled.drawn g w n).block i (by omega)
    · exact (Rolled.drawn (g + 1) w n).block i e
theorem DiceAt.free {w : World} {g c k : Nat} {A : Option Addr} {L : List Int} (h : DiceAt w g A L c k) (j : Nat) : w.frozen? ⟨g, j, none⟩ = false := by
  simp [World.frozen?, h.cells]

set_option maxHeartbeats 2000000 in
set_option maxRecDepth 100000 in
theorem next_any (g c k : Nat) (A : Option Addr) (L : List Int) (n : Int) (hn : n ≤ 4294967296) (w : World) (h : DiceAt w g A L c k) :
    Calls Tryd.prog 31 #[.pointer (some ⟨g, 0, none⟩), .int .i64 n] w fun e w' => (∃ r : Int, e = .returned (.int .i64 r) ∧ (1 ≤ n → 0 ≤ r ∧ r < n)) ∧ (∃ k', DiceAt w' g A L c k') ∧ Rolled g w w' := by
  have h0 := h.list
  have h1 := h.at_
  have hle := h.le
  have hfew := h.few
  have H := hid h
  clear h
  by_cases hk : k < L.length
  · have hkz : ¬ (L.length : Int) ≤ (k : Int) := by omega
    have hkb : decide (L.length ≤ k) = false := decide_eq_false (by omega)
    go_enter Tryd.func31, Tryd.ntmps31
    go_wp2
    go_quiet (fail)
    have hD := H.out.drawn nq
    have hR := Rolled.drawn g w nq
    generalize w.drewN nq = w1 at hD hR ⊢
    clear h0 h1 H
    have h0 := hD.list
    have h1 := hD.at_
    have hf := hD.free 1
    have hD2 := hD.next hk
    have hR2 := hR.trans (Rolled.set g 1 w1 (.int .i64 ((k : Int) + 1)))
    have HD2 := hid hD2
    have HR2 := hid hR2
    clear hD hR hD2 hR2
    go_wp2
    have hD := HD2.out
    have hR := HR2.out
    clear HD2 HR2 h0 h1 hf
    generalize w1.setCell ⟨g, 1, none⟩ (.int .i64 ((k : Int) + 1)) = w2 at hD hR ⊢
    have h0 := hD.list
    have h1 := hD.at_
    rw [show (((k + 1 : Nat)) : Int) = (k : Int) + 1 by omega] at h1
    obtain ⟨v, hv⟩ : ∃ v, L[k]? = some v := ⟨_, List.getElem?_eq_getElem hk⟩
    obtain ⟨b, off, rfl, hc⟩ : ∃ b off, A = some ⟨b, off, none⟩ ∧ w2.cell? ⟨b, off + k, none⟩ = some (.int .i64 v) := by
      rcases hD.ints with h' | ⟨b, off, hA, _, hc⟩
      · rw [h'] at hk; simp at hk
      · exact ⟨b, off, hA, hc k v hv⟩
    have HD := hid hD
    have HR := hid hR
    have hm := modI_range v n
    have HM := hid hm
    clear hD hR hv hm
    go_quiet ((go_at_call 26; with_reducible refine Calls.quiet_of_same ((mod_any v n hn _).mono fun _ _ h => ⟨h.1, h.2.symm⟩)))
    go_wp2
    go_ret
    exact ⟨⟨_, rfl, HM.out⟩, ⟨_, HD.out.drawn nq⟩, HR.out.trans (Rolled.drawn g w2 nq)⟩
  · have hkz : (L.length : Int) ≤ (k : Int) := by omega
    have hkb : decide (L.length ≤ k) = true := decide_eq_true (by omega)
    go_enter Tryd.func31, Tryd.ntmps31
    go_wp2
    go_quiet (fail)
    go_wp2
    go_ret
    exact ⟨⟨0, rfl, fun _ => by omega⟩, ⟨_, H.out.drawn nq⟩, Rolled.drawn g w nq⟩
end Go.Proofs.YtcpkefjijinhiaaDoor
