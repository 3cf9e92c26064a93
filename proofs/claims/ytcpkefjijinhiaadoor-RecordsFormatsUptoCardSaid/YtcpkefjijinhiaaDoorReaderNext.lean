/-
  The reference's reader of layer 2: next, which goes behind the end of the line. Conditions: the reader lies in memory; its text has at most 65536 bytes.
-/
import Derived.Test.YtcpkefjijinhiaaDoorReader
import Derived.Deep.LoopGhost
import Derived.BigRegion
set_option linter.unusedVariables false
namespace Go.Proofs.YtcpkefjijinhiaaDoor
open Go Go.Proofs Go.RowKit Go.Lib

/-- How many bytes are ahead of the next line feed. -/
def eolN : Str → Nat
  | [] => 0
  | c :: r => if c.toNat = 10 then 0 else eolN r + 1
theorem eolN_le : ∀ l : Str, eolN l ≤ l.length
  | [] => Nat.le_refl _
  | c :: r => by
    unfold eolN
    have := eolN_le r
    split <;> simp <;> omega
theorem eolN_ne (c : UInt8) (r : Str) (h : c.toNat ≠ 10) : eolN (c :: r) = eolN r + 1 := if_neg h
theorem eolN_eq (c : UInt8) (r : Str) (h : c.toNat = 10) : eolN (c :: r) = 0 := if_pos h
/-- The place behind the end of the line. -/
def nextP (S : ByteArray) (a : Nat) : Nat := if a + eolN (S.data.toList.drop a) < S.size then a + eolN (S.data.toList.drop a) + 1 else a + eolN (S.data.toList.drop a)

theorem ReaderAt.free {w : World} {g a l b : Nat} {S : ByteArray} (h : ReaderAt w g S a l b) (j : Nat) : w.frozen? ⟨g, j, none⟩ = false := by
  simp [World.frozen?, h.cells]
theorem ReaderAt.rolled {w w' : World} {g a l b : Nat} {S : ByteArray} (h : ReaderAt w g S a l b) (hr : w'.heap[g]? = w.heap[g]?) : ReaderAt w' g S a l b :=
  ⟨hr.trans h.cells, h.le, h.from', h.lines, h.small⟩
theorem ReaderAt.step {w : World} {g a l b : Nat} {S : ByteArray} (h : ReaderAt w g S a l b) (ha : a < S.size) : ReaderAt (w.setCell ⟨g, 1, none⟩ (.int .i64 ((a : Int) + 1))) g S (a + 1) l b := by
  refine ⟨?_, ha, by have := h.from'; omega, by have := h.lines; omega, h.small⟩
  rw [heap_setCell_same w g 1 _ _ _ h.cells]
  rfl

theorem ReaderAt.turn {w : World} {g a l b : Nat} {S : ByteArray} (h : ReaderAt w g S a l b) {p : Int} (hp : p = (a : Int)) (hl : l ≤ a + 1) : ReaderAt ((w.setCell ⟨g, 2, none⟩ (.int .i64 ((l : Int) + 1))).setCell ⟨g, 3, none⟩ (.int .i64 p)) g S a (l + 1) a := by
  subst hp
  refine ⟨?_, h.le, Nat.le_refl _, by omega, h.small⟩
  have h1 := heap_setCell_same w g 2 _ _ (.int .i64 ((l : Int) + 1)) h.cells
  rw [heap_setCell_same _ g 3 _ _ _ h1]
  rfl

set_option maxHeartbeats 4000000 in
set_option maxRecDepth 100000 in
theorem next37_any (g a l b : Nat) (S : ByteArray) (w : World) (h : ReaderAt w g S a l b) (hl : l ≤ a + 1) :
    Calls Tryd.prog 45 #[.pointer (some ⟨g, 0, none⟩)] w fun e w' => e = .returned (.tuple #[]) ∧ ReaderAt w' g S (nextP S a) (l + 1) (nextP S a) ∧ Rolled g w w' := by
  have H := hid h
  have hsm := h.small
  clear h
  go_enter Tryd.func45, Tryd.ntmps45
  go_wp2
  go_loopg [2] (S.size + 1) (fun gk s2 wx => ∃ a' : Nat, ReaderAt wx g S a' l b ∧ a ≤ a' ∧ Hid (a' + eolN (S.data.toList.drop a') = a + eolN (S.data.toList.drop a)) ∧ Rolled g w wx ∧ S.size - a' < gk)
  case atStart => exact ⟨a, H.out, Nat.le_refl _, hid rfl, Rolled.refl _ _, by omega⟩
  case round =>
    obtain ⟨a', hR, haa, hE, hRo, hgk⟩ := hrel
    obtain ⟨g', rfl⟩ : ∃ g', gk = g' + 1 := ⟨gk - 1, by omega⟩
    have hle := hR.le
    have hfr := hR.from'
    have hll := hR.lines
    have e1 : IntKind.i64.wrap ((a' : Int) + 1) = (a' : Int) + 1 := IntWalk.i64_in _ (by omega)
    have e2 : IntKind.i64.wrap ((l : Int) + 1) = (l : Int) + 1 := IntWalk.i64_in _ (by omega)
    have h0 := hR.c0
    have h1 := hR.c1
    have HR := hid hR
    have HRo := hid hRo
    clear hR hRo H
    by_cases hlt : a' < S.size
    · have hltz : (a' : Int) < (S.size : Int) := by omega
      obtain ⟨x, hx⟩ : ∃ x, (S[a']'hlt).toNat = x := ⟨_, rfl⟩
      have hdr := drop_at S a' hlt
      by_cases h10 : x = 10
      · have heq : eolN (S.data.toList.drop a') = 0 := by rw [hdr]; exact eolN_eq _ _ (by rw [hx]; exact h10)
        have hnx : Hid (nextP S a = a' + 1) := by
          have h := hE.out
          rw [heq, Nat.add_zero] at h
          unfold nextP
          rw [← h, if_pos hlt]
          exact hid rfl
        subst h10
        clear hdr hE heq hfr
        go_wp2
        go_quiet (fail)
        have hR2 := HR.out.rolled (w' := wr.drewN nq) (drewN_heap wr nq g)
        have hRo2 := HRo.out.trans (Rolled.drawn g wr nq)
        generalize wr.drewN nq = w1 at hR2 hRo2 ⊢
        clear h0 h1
        have h0 := hR2.c0
        have h1 := hR2.c1
        have HR2 := hid hR2
        have HRo2 := hid hRo2
        clear hR2 hRo2 HR HRo
        go_wp2
        go_quiet (fail)
        have hR2 := HR2.out.rolled (w' := w1.drewN nq) (drewN_heap w1 nq g)
        have hRo2 := HRo2.out.trans (Rolled.drawn g w1 nq)
        generalize w1.drewN nq = w2 at hR2 hRo2 ⊢
        clear h0 h1
        have h0 := hR2.c0
        have h1 := hR2.c1
        have hf1 := hR2.free 1
        have HR3 := hid (hR2.step hlt)
        have HRo3 := hid (hRo2.trans (Rolled.set g 1 w2 (.int .i64 ((a' : Int) + 1))))
        clear hR2 hRo2 HR2 HRo2
        go_wp2
        have hR4 := HR3.out
        have hRo4 := HRo3.out
        clear HR3 HRo3 h0 h1 hf1
        generalize w2.setCell ⟨g, 1, none⟩ (.int .i64 ((a' : Int) + 1)) = w3 at hR4 hRo4 ⊢
        have h1 := hR4.c1
        have h2 := hR4.c2
        have h3 := hR4.c3
        have hf2 := hR4.free 2
        have hf3 := hR4.free 3
        rw [show (((a' + 1 : Nat)) : Int) = (a' : Int) + 1 by omega] at h1
        have HR4 := hid hR4
        have HRo4 := hid hRo4
        clear hR4 hRo4
        have hT := HR4.out.turn (p := (a' : Int) + 1) (by omega) (by omega)
        have hRT := HRo4.out.trans ((Rolled.set g 2 w3 (.int .i64 ((l : Int) + 1))).trans (Rolled.set g 3 _ (.int .i64 ((a' : Int) + 1))))
        have HT := hid hT
        have HRT := hid hRT
        clear hT hRT
        go_region
        all_goals
          go_wp2
          refine bodyPost_end (results_none rfl _ _ _) rfl ?_
          rw [hnx.out]
          exact ⟨rfl, HT.out.rolled rfl, ⟨HRT.out.os, HRT.out.tape, HRT.out.output, HRT.out.size, HRT.out.block⟩⟩
      · have hn10 : ((x : Int) != 10) = true := by simp; omega
        have hE2 : Hid (a' + 1 + eolN (S.data.toList.drop (a' + 1)) = a + eolN (S.data.toList.drop a)) := by
          have h := hE.out
          rw [hdr, eolN_ne _ _ (by rw [hx]; exact h10)] at h
          exact hid (by rw [← h]; omega)
        clear hdr hE hfr
        go_wp2
        go_quiet (fail)
        have hR2 := HR.out.rolled (w' := wr.drewN nq) (drewN_heap wr nq g)
        have hRo2 := HRo.out.trans (Rolled.drawn g wr nq)
        generalize wr.drewN nq = w1 at hR2 hRo2 ⊢
        clear h0 h1
        have h0 := hR2.c0
        have h1 := hR2.c1
        have hf := hR2.free 1
        have HR2 := hid (hR2.step hlt)
        have HRo2 := hid (hRo2.trans (Rolled.set g 1 w1 (.int .i64 ((a' : Int) + 1))))
        clear hR2 hRo2
        go_wp2
        go_roundg g'
        case measure => omega
        case rel => exact ⟨a' + 1, HR2.out, by omega, hE2, HRo2.out, by omega⟩
    · have hltz : ¬ (a' : Int) < (S.size : Int) := by omega
      have hltb : decide (a' < S.size) = false := decide_eq_false hlt
      have hnx : Hid (nextP S a = a') := by
        have h := hE.out
        rw [List.drop_of_length_le (by rw [← Lib.size_eq]; omega), show eolN [] = 0 from rfl, Nat.add_zero] at h
        unfold nextP
        rw [← h, if_neg hlt]
        exact hid rfl
      clear hE hfr
      go_wp2
      go_quiet (fail)
      have hR2 := HR.out.rolled (w' := wr.drewN nq) (drewN_heap wr nq g)
      have hRo2 := HRo.out.trans (Rolled.drawn g wr nq)
      generalize wr.drewN nq = w1 at hR2 hRo2 ⊢
      clear h0 h1
      have h0 := hR2.c0
      have h1 := hR2.c1
      have HR2 := hid hR2
      have HRo2 := hid hRo2
      clear hR2 hRo2 HR HRo
      go_wp2
      go_quiet (fail)
      have hR2 := HR2.out.rolled (w' := w1.drewN nq) (drewN_heap w1 nq g)
      have hRo2 := HRo2.out.trans (Rolled.drawn g w1 nq)
      generalize w1.drewN nq = w3 at hR2 hRo2 ⊢
      clear h0 h1
      have h0 := hR2.c0
      have h1 := hR2.c1
      have h2 := hR2.c2
      have h3 := hR2.c3
      have hf2 := hR2.free 2
      have hf3 := hR2.free 3
      have hT := hR2.turn (p := (a' : Int)) rfl (by omega)
      have hRT := hRo2.trans ((Rolled.set g 2 w3 (.int .i64 ((l : Int) + 1))).trans (Rolled.set g 3 _ (.int .i64 (a' : Int))))
      have HT := hid hT
      have HRT := hid hRT
      clear hT hRT hR2 hRo2 HR2 HRo2
      go_wp2
      go_region
      all_goals
        go_wp2
        refine bodyPost_end (results_none rfl _ _ _) rfl ?_
        rw [hnx.out]
        exact ⟨rfl, HT.out.rolled rfl, ⟨HRT.out.os, HRT.out.tape, HRT.out.output, HRT.out.size, HRT.out.block⟩⟩
end Go.Proofs.YtcpkefjijinhiaaDoor
