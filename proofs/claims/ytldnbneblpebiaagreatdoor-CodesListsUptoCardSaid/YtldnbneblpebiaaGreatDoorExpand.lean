/-
  The codes of a range: the program's expand. Conditions: the library's variables hold what its text lays; the code has at most 16 bytes; at most 64 codes.
-/
import Derived.Test.YtldnbneblpebiaaGreatDoorRange
import Derived.Test.YtldnbneblpebiaaGreatDoorStrs
import Derived.Laws.OwnMore
set_option linter.unusedVariables false
namespace Go.Proofs.YtldnbneblpebiaaGreatDoor
open Go Go.Proofs Go.RowKit Go.Lib

def nthS (s : Str) (j : Nat) : Str := preS s ++ wrS (numL s + j) (lastS s).length
/-- The first codes of a range. -/
def expandL (s : Str) (n : Nat) : List Str := s :: (List.range (n - 1)).map (fun j => nthS s (j + 1))
theorem expandL_snoc (s : Str) (n : Nat) (h : 1 ≤ n) : expandL s (n + 1) = expandL s n ++ [nthS s n] := by
  obtain ⟨m, rfl⟩ : ∃ m, n = m + 1 := ⟨n - 1, by omega⟩
  unfold expandL
  rw [show m + 1 + 1 - 1 = m + 1 by omega, show m + 1 - 1 = m by omega, List.range_succ]
  simp
theorem expandL_len (s : Str) (n : Nat) (h : 1 ≤ n) : (expandL s n).length = n := by
  unfold expandL
  simp
  omega
theorem ba_lst (s : ByteArray) : (⟨(lst s).toArray⟩ : ByteArray) = s := by cases s; rfl
theorem strV_lst (s : ByteArray) : strV (lst s) = .string s := by unfold strV; rw [ba_lst]

set_option maxHeartbeats 1000000 in
theorem clone_any (s : ByteArray) (hs : s.size ≤ 281474976710656) (w : World) : Calls Tryz.prog 74 #[.string s] w fun e w' => e = .returned (.string s) ∧ Below w.heap.size w w' := by
  go_enter Tryz.func74, Tryz.ntmps74
  go_wp2_with fail
  refine (Tryz.stringslite_Clone s _ hs).mono ?_
  rintro e w' ⟨rfl, hb⟩
  go_wp2
  go_ret
  exact ⟨rfl, hb⟩
theorem fresh_row (w : World) (s : Str) : StrRow (w.alloc (.cells #[strV s] 9)) w.heap.size (.slice (some ⟨w.heap.size, 0, none⟩) 1 1) [s] := by
  refine ⟨rfl, .inr ⟨w.heap.size, 1, #[strV s], rfl, Nat.le_refl _, heap_alloc_new w _, Nat.le_refl _, by unfold maxLen; omega, rfl, rfl⟩⟩

theorem row_kind9 {w : World} {B e z n : Nat} {v : Value} {xs : List Value} (h : w.ownsRow B e z v n xs) (g : Nat) (hg : v.ownBlock = some g) : ∃ c, w.heap[g]? = some (.cells c e (0, 0)) := by
  rcases h.2 with ⟨rfl, _⟩ | ⟨k, cap, cur, rfl, _, hh, _⟩
  · simp [Value.ownBlock] at hg
  · simp only [Value.ownBlock, Option.some.injEq] at hg
    subst hg
    exact ⟨cur, hh⟩
theorem env_grown {w w' : World} {B : Nat} (h : Env w) (hb : Below B w w') (hB : 8 ≤ B) : Env w' := by
  obtain ⟨m, hm⟩ := h.m
  obtain ⟨ev, he, hk⟩ := h.ev
  exact ⟨⟨m, (hb.cell (p := ⟨0, 0, none⟩) (by show 0 < B; omega)).trans hm⟩, ⟨ev, (hb.cell (p := ⟨3, 0, none⟩) (by show 3 < B; omega)).trans he, hk⟩,
    var_below hb gTab (by omega) h.tab, Nat.le_trans h.size hb.size⟩
/-- What hands back a list of strings of its own. -/
def RowOut (l : List Str) (w : World) (e : Ending) (w' : World) : Prop := (∃ v, e = .returned v ∧ StrRow w' w.heap.size v l) ∧ Below w.heap.size w w'
set_option maxHeartbeats 4000000 in
set_option maxRecDepth 100000 in
theorem expand_any (s : ByteArray) (n : Nat) (hs : s.size ≤ 16) (h1 : 1 ≤ n) (hn : n ≤ 64) (w : World) (hE : Env w) :
    Calls Tryz.prog 60 #[.string s, .int .i64 (n : Int)] w (RowOut (expandL (lst s) n) w) := by
  have h8 := hE.size
  have hsm := numL_small (lst s) (len16 hs)
  have hll := last_len (lst s) (len16 hs)
  have cC := clone_any s (by omega) w
  have HE := hid hE
  have CC := hid cC
  obtain ⟨i9, hi9, hz9, hsi9, hby9⟩ := info_parts infoStr
  clear hE cC
  go_enter Tryz.func60, Tryz.ntmps60
  go_wp2_with fail
  refine CC.out.mono ?_
  rintro e w1 ⟨rfl, hb1⟩
  have hrow := fresh_row w1 (lst s)
  rw [strV_lst] at hrow
  have hba : Below w1.heap.size w1 (w1.alloc (.cells #[.string s] 9)) := (Below.refl _ w1).alloc (Nat.le_refl _) _
  have HB1 := hid (hb1.trans (hba.mono hb1.size))
  have HE1 := hid ((HE.out.below hb1).below hba)
  have HR1 := hid (StrRow.mono hrow hb1.size)
  clear hrow hba hb1 HE CC
  go_wp2_with fail
  generalize w1.alloc (.cells #[.string s] 9) = w2 at HB1 HE1 HR1 ⊢
  refine (divide_any s hs _ HE1.out).mono ?_
  rintro e w3 ⟨⟨P, rfl, hP⟩, hb3⟩
  unfold divV
  have hPs : P.size ≤ 16 := by rw [Lib.size_eq, show P.data.toList = _ from hP]; exact hll.2
  obtain ⟨nA, hnA⟩ : ∃ n, numL (lst s) = n := ⟨_, rfl⟩
  obtain ⟨wA, hwA⟩ : ∃ n, (lastS (lst s)).length = n := ⟨_, rfl⟩
  have hwA16 : wA ≤ 16 := by rw [← hwA]; exact hll.1
  rw [hnA] at hsm
  have hnth : Hid (∀ j, nthS (lst s) j = lst P ++ wrS (nA + j) wA) := hid (fun j => by unfold nthS; rw [hnA, hwA, hP])
  rw [hnA, hwA]
  have hR3 := row_under HR1.out hb3
  have hE3 := HE1.out.below hb3
  have hba : Below w3.heap.size w3 (w3.alloc (.cells #[.string P, .int .i64 (nA : Int), .int .i64 (wA : Int)] 75)) := (Below.refl _ w3).alloc (Nat.le_refl _) _
  have hz : (w3.alloc (.cells #[.string P, .int .i64 (nA : Int), .int .i64 (wA : Int)] 75)).heap[w3.heap.size]? = some (.cells #[.string P, .int .i64 (nA : Int), .int .i64 (wA : Int)] 75 (0, 0)) := heap_alloc_new w3 _
  have HR := hid (row_under hR3 hba)
  have HE := hid (hE3.below hba)
  have HB := hid ((HB1.out.trans (hb3.mono HB1.out.size)).trans (hba.mono (Nat.le_trans HB1.out.size hb3.size)))
  have HZ := hid hz
  have hws : w.heap.size ≤ w3.heap.size := Nat.le_trans HB1.out.size hb3.size
  have hsz : (w3.alloc (.cells #[.string P, .int .i64 (nA : Int), .int .i64 (wA : Int)] 75)).heap.size = w3.heap.size + 1 := by simp
  clear hnA hwA hP hll hb3 hR3 hE3 hba hz HB1 HE1 HR1
  go_wp2_with fail
  generalize w3.alloc (.cells #[.string P, .int .i64 (nA : Int), .int .i64 (wA : Int)] 75) = w4 at HR HE HB HZ hsz ⊢
  go_loopw [5, 8] (fun v iv wr => ∃ i : Nat, iv = .int .i64 (i : Int) ∧ 1 ≤ i ∧ i ≤ n ∧ StrRow wr w.heap.size v (expandL (lst s) i) ∧ Hid (wr.heap[w3.heap.size]? = some (.cells #[.string P, .int .i64 (nA : Int), .int .i64 (wA : Int)] 75 (0, 0))) ∧ Hid (Env wr) ∧ Hid (Below w.heap.size w wr)) (fun _ iv _ => n - (RowKit.intOf iv).toNat)
  case atStart => exact ⟨1, rfl, Nat.le_refl _, h1, HR.out, HZ, HE, HB⟩
  case round =>
    obtain ⟨i, rfl, hi1, hin, hrow, hZ, hEr, hBr⟩ := hrel
    by_cases hlt : i < n
    · have hltz : (i : Int) < (n : Int) := by omega
      have c0 : wr.cell? ⟨w3.heap.size, 0, none⟩ = some (.string P) := by rw [Lib.cell_of_heap hZ.out]; rfl
      have c1 : wr.cell? ⟨w3.heap.size, 1, none⟩ = some (.int .i64 (nA : Int)) := by rw [Lib.cell_of_heap hZ.out]; rfl
      have c2 : wr.cell? ⟨w3.heap.size, 2, none⟩ = some (.int .i64 (wA : Int)) := by rw [Lib.cell_of_heap hZ.out]; rfl
      have HRow := hid hrow
      have cA := hid (after_any P nA wA i hPs (by omega) hwA16 wr hEr.out)
      have hel := expandL_len (lst s) i hi1
      have HEL := hid hel
      clear hrow hel
      go_wp2_with fail
      refine cA.out.mono ?_
      rintro e w5 ⟨⟨X, rfl, hX⟩, hb5⟩
      have hlt3 : w3.heap.size < wr.heap.size := (Array.getElem?_eq_some_iff.1 hZ.out).1
      have hrow5 : StrRow w5 w.heap.size _ (expandL (lst s) i) := row_under HRow.out hb5
      have HRow5 := hid hrow5
      have HZ5 := hid ((hb5.block _ hlt3).trans hZ.out)
      have HE5 := hid (hEr.out.below hb5)
      have HB5 := hid (hBr.out.trans (hb5.mono hBr.out.size))
      have hnew : Hid (lst X = nthS (lst s) i) := hid (by rw [hnth.out]; exact hX)
      have HC3 : Hid ((expandL (lst s) i).length + 1 ≤ maxLen) := by unfold maxLen; exact hid (by have := HEL.out; omega)
      have HC4 : Hid (((expandL (lst s) i).length + 1) * 16 ≤ 140737488355328) := hid (by have := HEL.out; omega)
      have HC5 : Hid (∀ o : Obj, w.heap.size ≤ (w5.alloc o).heap.size) := hid (fun o => by have := HB5.out.size; simp; omega)
      clear hX hb5 hrow5 hlt3 c0 c1 c2 cA HRow
      go_wp2_with (at_builtin; refine wpList_append_own _ rfl _ _ 34 rfl w.heap.size 9 i9 (.string ⟨#[]⟩) 1 16 Tryz.underlying34 hi9 hz9 hsi9 hby9 rfl (by decide) _ (expandL (lst s) i).length (strVals (expandL (lst s) i)) rfl (World.ownsRow.alloc HRow5.out _) ⟨w5.heap.size, 0, none⟩ 1 1 [.string X] rfl rfl (one_new _ _ _) (one_str _) HC3.out HC4.out (HC5.out _) ?_)
      intro v' w6 hown' hgrow _
      have hg' := grownBy_of_alloc hgrow
      have hb56 : Below w.heap.size w5 w6 := (Below.refl _ w5).grown hg' HB5.out.size (fun k hk => (World.ownsRow.lt HRow5.out k hk).1)
      have hZ6 : w6.heap[w3.heap.size]? = some (.cells #[.string P, .int .i64 (nA : Int), .int .i64 (wA : Int)] 75 (0, 0)) := by
        refine (hg'.block _ (Array.getElem?_eq_some_iff.1 HZ5.out).1 ?_).trans HZ5.out
        intro e
        obtain ⟨cc, hcc⟩ := row_kind9 HRow5.out _ e.symm
        rw [HZ5.out] at hcc
        injection hcc with hcc
        injection hcc with _ h2 _
        cases h2
      have HE6 := hid (env_grown HE5.out hb56 h8)
      go_wp2
      go_roundw
      case rel =>
        refine ⟨i + 1, by go_num, by omega, by omega, ?_, hid hZ6, HE6, hid (HB5.out.trans hb56)⟩
        rw [expandL_snoc _ _ hi1, ← hnew.out]
        unfold StrRow
        rw [strVals_app, List.length_append]
        have h9 := hown'
        rw [← strV_lst] at h9
        exact h9
      case measure => simp [RowKit.intOf]; omega
    · have hltz : ¬ (i : Int) < (n : Int) := by omega
      obtain rfl : n = i := by omega
      obtain ⟨Ar, cr, rfl⟩ := row_slice hrow
      have HRow := hid hrow
      clear hrow
      go_wp2
      go_ret
      exact ⟨⟨_, rfl, HRow.out⟩, hBr.out⟩
end Go.Proofs.YtldnbneblpebiaaGreatDoor
