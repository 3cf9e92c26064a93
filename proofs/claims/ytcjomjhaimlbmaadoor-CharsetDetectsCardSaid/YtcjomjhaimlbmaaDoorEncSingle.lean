/-
  What encodeSingle returns: a byte for each character. Condition: the string has at most 140737488351232 bytes.
-/
import Derived.Test.YtcjomjhaimlbmaaDoorEncMath
import Derived.Test.YtcjomjhaimlbmaaDoorRef
import Derived.Test.YtcjomjhaimlbmaaDoorS1
import Derived.Test.YtcjomjhaimlbmaaDoorShelf
set_option linter.unusedVariables false
namespace Go.Proofs.YtcjomjhaimlbmaaDoor
open Go Go.Proofs Go.RowKit Go.Lib

theorem row_iterAt {w : World} {B : Nat} {e : TypeId} {z : Nat} {v : Value} {n : Nat} {xs : List Value} (h : w.ownsRow B e z v n xs) {k : Nat} {s : ByteArray} {pos : Nat} (hk : w.heap[k]? = some (.stringIter s pos)) (pos' : Nat) : (w.iterAt k s pos').ownsRow B e z v n xs := by
  obtain ⟨h1, h2⟩ := h
  refine ⟨h1, ?_⟩
  rcases h2 with h2 | ⟨g, cap, cur, hv, hg, hh, r⟩
  · exact .inl h2
  · refine .inr ⟨g, cap, cur, hv, hg, ?_, r⟩
    rw [Lib.iterAt_other w k g s pos' (fun e => by subst e; rw [hh] at hk; injection hk with hk; cases hk)]
    exact hh
theorem row_ne_iter {w : World} {B : Nat} {e : TypeId} {z : Nat} {v : Value} {n : Nat} {xs : List Value} (h : w.ownsRow B e z v n xs) {k : Nat} {s : ByteArray} {pos : Nat} (hk : w.heap[k]? = some (.stringIter s pos)) : v.ownBlock ≠ some k := by
  rcases h.2 with ⟨rfl, _⟩ | ⟨g, cap, cur, rfl, _, hg, _⟩
  · simp [Value.ownBlock]
  · intro e
    simp only [Value.ownBlock, Option.some.injEq] at e
    subst e
    rw [hg] at hk
    injection hk with hk
    cases hk
theorem one_new (w : World) (a : Value) (t : TypeId) : ∀ (j : Nat) (u : Value), [a][j]? = some u → (w.alloc (.cells #[a] t)).cell? ((⟨w.heap.size, 0, none⟩ : Addr).add j) = some u := by
  intro j u hj
  match j, hj with
  | 0, hj => simp at hj; subst hj; simp [Addr.add]
  | j + 1, hj => simp at hj
theorem one_one (a : IntKind) (x : Int) : ∀ u ∈ [Value.int a x], u.oneCell' = true := by
  intro u hu
  simp at hu
  subst hu
  rfl
theorem below_iter (w : World) (s : ByteArray) (pos : Nat) : Below w.heap.size w (w.iter s pos) := (Below.refl _ w).alloc (Nat.le_refl _) _

set_option maxHeartbeats 1000000 in
theorem encodeSingle_any (s : ByteArray) (hs : s.size ≤ 140737488351232) (w : World) :
    Calls Tryd.prog 26 #[.string s] w fun e w' => ∃ v, e = .returned v ∧ w'.ownsRow w.heap.size 5 1 v (encB s.data.toList).length (byteCells (encB s.data.toList)) ∧ Below w.heap.size w w' := by
  obtain ⟨E, hE⟩ : ∃ E, encB s.data.toList = E := ⟨_, rfl⟩
  rw [hE]
  have HE := hid hE
  have hsl : s.data.toList.length = s.size := (Lib.size_eq s).symm
  have HSL := hid hsl
  have hrc := Lib.runeCount_le s
  obtain ⟨N, hN⟩ : ∃ N, Lib.runeCount s = N := ⟨_, rfl⟩
  have cR := Tryd.utf8_RuneCountInString s w (by omega)
  rw [hN] at cR hrc
  have CR := hid cR
  obtain ⟨i5, hi5, hz5, hsi5, hby5⟩ := info_parts info5
  clear hE cR hN hsl
  go_enter Tryd.func26, Tryd.ntmps26
  go_wp2_with fail
  refine CR.out.mono ?_
  rintro e w1 ⟨rfl, pos0, hw1⟩
  have hb1 : Below w.heap.size w w1 := by rw [hw1]; exact below_iter w s pos0
  clear hw1
  obtain ⟨w2, hrun, hown, hgrow⟩ := run_make_own (P := Tryd.prog) w1 w.heap.size 22 5 i5 (.int .u8 0) 1 Tryd.underlying22 hi5 hz5 hsi5 .i64 .i64 N (by rw [hby5]; omega) (by unfold maxLen; omega) hb1.size
  have hb2 : Below w.heap.size w w2 := hb1.grown hgrow hb1.size (fun k hk => by cases hk)
  clear hgrow
  go_wp2
  go_loopw [3] (fun v wr => ∃ (pos : Nat) (acc : List UInt8), wr.heap[w2.heap.size]? = some (.stringIter s pos) ∧ wr.ownsRow w.heap.size 5 1 v acc.length (byteCells acc) ∧ Below w.heap.size w wr ∧ Hid (acc ++ encB (s.data.toList.drop pos) = E) ∧ acc.length ≤ pos) (fun _ wr => s.size - wr.iterPos w2.heap.size)
  case atStart =>
    refine ⟨0, [], ?_, hown.alloc _, hb2.alloc hb2.size _, hid HE.out, Nat.zero_le _⟩
    exact World.iter_heap w2 s 0
  case round =>
    obtain ⟨pos, acc, hit, hov, hbw, hacc, hal⟩ := hrel
    have hsz : w2.heap.size < wr.heap.size := (Array.getElem?_eq_some_iff.1 hit).1
    by_cases hp : pos < s.size
    · have hnx : ∀ ty, (Instr.next (.pointer (some ⟨w2.heap.size, 0, none⟩)) true ty).run Tryd.prog wr = _ := fun ty => Lib.run_next_any_at wr w2.heap.size s pos ty hit hp
      have hdec : decodeL (s.data.toList.drop pos) = Utf8.decode s pos := decodeL_drop s pos
      have hwd := Lib.width_pos s pos
      have hrl := Lib.rune_le s pos
      have hst := encB_step (s.data.toList.drop pos) (drop_ne _ _ (by rw [HSL.out]; exact hp))
      obtain ⟨R, hR⟩ : ∃ R, (Utf8.decode s pos).1 = R := ⟨_, rfl⟩
      obtain ⟨K, hK⟩ : ∃ K, (Utf8.decode s pos).2 = K := ⟨_, rfl⟩
      have hRK : Utf8.decode s pos = (R, K) := by rw [← hR, ← hK]
      rw [hdec, hRK, List.drop_drop] at hst
      rw [hRK] at hnx
      rw [hK] at hwd
      rw [hR] at hrl
      dsimp only at hnx hst
      have hit2 := Lib.iterAt_heap wr w2.heap.size s pos (pos + K) hit
      have hov2 := row_iterAt hov hit (pos + K)
      have hbw2 := Lib.below_iterAt hbw (k := w2.heap.size) hb2.size s (pos + K)
      obtain ⟨W, hWd⟩ : ∃ W, wr.iterAt w2.heap.size s (pos + K) = W := ⟨_, rfl⟩
      rw [hWd] at hnx hit2 hov2 hbw2
      have hszW : w.heap.size ≤ W.heap.size := hbw2.size
      have HIT := hid hit
      have HST := hid hst
      have HC3 : Hid (acc.length + 1 ≤ maxLen) := by unfold maxLen; exact hid (by omega)
      have HC4 : Hid ((acc.length + 1) * 1 ≤ 140737488355328) := hid (by omega)
      have HC5 : Hid (∀ o : Obj, w.heap.size ≤ (W.alloc o).heap.size) := hid (fun o => by simp; omega)
      clear hR hK hRK hdec hWd hit hst hov hbw
      go_wp2_with (at_builtin; refine wpList_append_own _ rfl _ _ 22 rfl w.heap.size 5 i5 (.int .u8 0) 1 1 Tryd.underlying22 hi5 hz5 hsi5 hby5 rfl (by decide) _ acc.length (byteCells acc) rfl (hov2.alloc _) ⟨W.heap.size, 0, none⟩ 1 1 [.int .u8 ((R : Int) % 256)] rfl rfl (one_new _ _ _) (one_one _ _) HC3.out HC4.out (HC5.out _) ?_)
      intro v' w3 hown' hgrow _
      have hg' := grownBy_of_alloc hgrow
      have hit3 := iter_grown hit2 hg' (row_ne_iter hov2 hit2)
      have hbw3 := hbw2.grown hg' hszW (fun k hk => (hov2.lt k hk).1)
      go_wp2
      go_roundw
      case rel =>
        refine ⟨pos + K, acc ++ [R.toUInt8], hit3, ?_, hbw3, ?_, ?_⟩
        · rw [byteCells_append, List.length_append]
          have e : byteCells [R.toUInt8] = [.int .u8 ((R : Int) % 256)] := by
            simp [byteCells]
          rw [e]
          exact hown'
        · have := hacc.out
          rw [HST.out] at this
          exact hid (by rw [List.append_assoc]; exact this)
        · simp; omega
      case measure =>
        simp only [World.iterPos, hit3, HIT.out]
        omega
    · have hnx : ∀ ty, (Instr.next (.pointer (some ⟨w2.heap.size, 0, none⟩)) true ty).run Tryd.prog wr = _ := fun ty => Lib.run_next_end_at wr w2.heap.size s pos ty hit hp
      have ea := hacc.out
      rw [List.drop_of_length_le (by rw [HSL.out]; omega), encB_nil, List.append_nil] at ea
      have EA := hid ea
      clear ea hit
      go_wp2
      go_ret
      obtain rfl : acc = E := EA.out
      exact ⟨_, rfl, hov, hbw⟩
end Go.Proofs.YtcjomjhaimlbmaaDoor
