/-
  The next made number, named: Next of timetablemade.Dice gives back a function of the list and the place. Conditions: the dice lie in memory.
-/
import Derived.Test.YtcpkefjijinhiaaDoorText
set_option linter.unusedVariables false
namespace Go.Proofs.YtcpkefjijinhiaaDoor
open Go Go.Proofs Go.RowKit Go.Lib

def rollV (L : List Int) (k : Nat) (n : Int) : Int := match L[k]? with | some v => modI v n | none => 0
def rollK (L : List Int) (k : Nat) : Nat := if k < L.length then k + 1 else k
theorem rollV_range (L : List Int) (k : Nat) (n : Int) (h : 1 ≤ n) : 0 ≤ rollV L k n ∧ rollV L k n < n := by
  unfold rollV
  split
  · exact modI_range _ n h
  · omega

set_option maxHeartbeats 2000000 in
set_option maxRecDepth 100000 in
theorem next_at (g c k : Nat) (A : Option Addr) (L : List Int) (n : Int) (hn : n ≤ 4294967296) (w : World) (h : DiceAt w g A L c k) :
    Calls Tryd.prog 31 #[.pointer (some ⟨g, 0, none⟩), .int .i64 n] w fun e w' => e = .returned (.int .i64 (rollV L k n)) ∧ DiceAt w' g A L c (rollK L k) ∧ Rolled g w w' := by
  have h0 := h.list
  have h1 := h.at_
  have hle := h.le
  have hfew := h.few
  have H := hid h
  clear h
  by_cases hk : k < L.length
  · obtain ⟨v, hv⟩ : ∃ v, L[k]? = some v := ⟨_, List.getElem?_eq_getElem hk⟩
    have hr1 : rollV L k n = modI v n := by unfold rollV; rw [hv]
    have hr2 : rollK L k = k + 1 := if_pos hk
    rw [hr1, hr2]
    have HV := hid hv
    clear hr1 hr2 hv
    have hkz : ¬ (L.length : Int) ≤ (k : Int) := by omega
    have hkb : decide (L.length ≤ k) = false := decide_eq_false (by omega)
    go_enter Tryd.func31, Tryd.ntmps31
    go_wp2
    go_quiet (fail)
    have hD := H.out.drawn nq
    have hR := Rolled.drawn g w nq
    generalize w.drewN nq = w1 at hD hR ⊢
    clear h0 h1 H
    have h0 := hD.list
    have h1 := hD.at_
    have hf := hD.free 1
    have hD2 := hD.next hk
    have hR2 := hR.trans (Rolled.set g 1 w1 (.int .i64 ((k : Int) + 1)))
    have HD2 := hid hD2
    have HR2 := hid hR2
    clear hD hR hD2 hR2
    go_wp2
    have hD := HD2.out
    have hR := HR2.out
    clear HD2 HR2 h0 h1 hf
    generalize w1.setCell ⟨g, 1, none⟩ (.int .i64 ((k : Int) + 1)) = w2 at hD hR ⊢
    have h0 := hD.list
    have h1 := hD.at_
    rw [show (((k + 1 : Nat)) : Int) = (k : Int) + 1 by omega] at h1
    obtain ⟨b, off, rfl, hc⟩ : ∃ b off, A = some ⟨b, off, none⟩ ∧ w2.cell? ⟨b, off + k, none⟩ = some (.int .i64 v) := by
      rcases hD.ints with h' | ⟨b, off, hA, _, hc⟩
      · rw [h'] at hk; simp at hk
      · exact ⟨b, off, hA, hc k v HV.out⟩
    have HD := hid hD
    have HR := hid hR
    clear hD hR
    go_quiet ((go_at_call 26; with_reducible refine Calls.quiet_of_same ((mod_any v n hn _).mono fun _ _ h => ⟨h.1, h.2.symm⟩)))
    go_wp2
    go_ret
    exact ⟨rfl, HD.out.drawn nq, HR.out.trans (Rolled.drawn g w2 nq)⟩
  · have hr1 : rollV L k n = 0 := by
      unfold rollV
      rw [List.getElem?_eq_none (by omega)]
    have hr2 : rollK L k = k := if_neg hk
    rw [hr1, hr2]
    clear hr1 hr2
    have hkz : (L.length : Int) ≤ (k : Int) := by omega
    have hkb : decide (L.length ≤ k) = true := decide_eq_true (by omega)
    go_enter Tryd.func31, Tryd.ntmps31
    go_wp2
    go_quiet (fail)
    go_wp2
    go_ret
    exact ⟨rfl, H.out.drawn nq, Rolled.drawn g w nq⟩
end Go.Proofs.YtcpkefjijinhiaaDoor
