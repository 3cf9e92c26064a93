/-
  The sanity check of the statements (awake) returns true; what made.Mod returns for 3. Condition: the library's two tables hold what their initialisers lay.
-/
import Derived.Test.YtcjomjhaimlbmaaDoorS4
import Derived.Test.YtcjomjhaimlbmaaDoorRunes
import Derived.BigQuiet
namespace Go.Proofs.YtcjomjhaimlbmaaDoor
open Go Go.Proofs Go.RowKit Go.Lib

theorem text_latin : textT (tokens 2 [233]) = [195, 169] := by decide
theorem text_utf8 : textT (tokens 3 [97, 233]) = [97, 239, 191, 189] := by decide
theorem dmg_utf8 : dmgT (tokens 3 [97, 233]) = [(1, 233)] := by decide

set_option maxHeartbeats 1000000 in
theorem awake_any (w : World) (hT : Lib.Utf8Tabs 0 1 w) : Calls Tryd.prog 10 #[] w fun e w' => e = .returned (.bool true) ∧ Below w.heap.size w w' := by
  have c1 : ∀ w1, w.alloc (.cells #[.int .u8 233] 5) = w1 → Calls Tryd.prog 8 #[.slice (some ⟨w.heap.size, 0, none⟩) 1 1, .int .i64 2] w1 (Dec3 w1 [195, 169] (dmgT (tokens 2 [233])) 0) := by
    rintro w1 rfl
    rw [← text_latin]
    exact decode_latin (some ⟨w.heap.size, 0, none⟩) [233] 1 (by decide) _ (.inr ⟨w.heap.size, 0, rfl, by simp, fun j u hu => by
      match j, hu with
      | 0, hu => simp at hu; subst hu; simp
      | j + 1, hu => simp at hu⟩)
  have c2 : ∀ w2 w3, Below w.heap.size w w2 → w2.alloc (.cells #[.int .u8 97, .int .u8 233] 5) = w3 → Calls Tryd.prog 8 #[.slice (some ⟨w2.heap.size, 0, none⟩) 2 2, .int .i64 3] w3 (Dec3 w3 [97, 239, 191, 189] [(1, 233)] 0) := by
    rintro w2 w3 hb rfl
    rw [← text_utf8, ← dmg_utf8]
    exact decode_utf8 (some ⟨w2.heap.size, 0, none⟩) [97, 233] 2 (by decide) _ (.inr ⟨w2.heap.size, 0, rfl, by simp, fun j u hu => by
      match j, hu with
      | 0, hu => simp at hu; subst hu; simp
      | 1, hu => simp at hu; subst hu; simp
      | j + 2, hu => simp at hu⟩) (Utf8Tabs_below hT (hb.alloc hb.size _))
  have C1 := hid c1
  have C2 := hid c2
  clear c1 c2 hT
  go_enter Tryd.func10, Tryd.ntmps10
  go_wp2_with fail
  refine (C1.out _ rfl).mono ?_
  rintro e w2 ⟨dv, rfl, hd, hb⟩
  have hb2 : Below w.heap.size w w2 := ((Below.refl _ w).alloc (Nat.le_refl _) _).trans (hb.mono (by simp))
  clear hd hb
  go_wp2_with fail
  refine (C2.out _ _ hb2 rfl).mono ?_
  rintro e w3 ⟨dv2, rfl, hd, hb⟩
  have hb3 : Below w.heap.size w w3 := (hb2.alloc hb2.size _).trans (hb.mono (by have := hb2.size; simp; omega))
  clear hb hb2
  obtain ⟨g, cap, rfl, hcell⟩ : ∃ g cap, dv2 = .slice (some ⟨g, 0, none⟩) 1 cap ∧ w3.cell? ⟨g, 0, none⟩ = some (.int .i64 1) := by
    rcases hd.2 with ⟨_, h⟩ | ⟨g, cap, cur, hv, _, hh, _, _, _, ht⟩
    · simp at h
    · refine ⟨g, cap, hv, ?_⟩
      rw [Lib.cell_of_heap hh]
      have := congrArg (·[0]?) ht
      simpa [dmgCells, List.getElem?_take] using this
  clear hd
  go_wp2
  go_ret
  exact ⟨rfl, hb3⟩

/-- What made.Mod(n, 3) returns. -/
def mod3 (n : Int) : Int := if n.tmod 3 < 0 then n.tmod 3 + 3 else n.tmod 3
theorem mod3_range (n : Int) : mod3 n = 0 ∨ mod3 n = 1 ∨ mod3 n = 2 := by
  unfold mod3
  have h1 := Int.tmod_lt_of_pos n (show (0 : Int) < 3 by decide)
  have h2 := Int.lt_tmod_of_pos n (show (0 : Int) < 3 by decide)
  split <;> omega
set_option maxHeartbeats 400000 in
theorem mod_any (n : Int) (w : World) : Calls Tryd.prog 16 #[.int .i64 n, .int .i64 3] w fun e w' => e = .returned (.int .i64 (mod3 n)) ∧ w = w' := by
  have ha := Int.tmod_lt_of_pos n (show (0 : Int) < 3 by decide)
  have hb := Int.lt_tmod_of_pos n (show (0 : Int) < 3 by decide)
  go_enter Tryd.func16, Tryd.ntmps16
  go_wp2
  · have e : mod3 n = n.tmod 3 + 3 := if_pos (by assumption)
    rw [e]
    go_ret
    exact ⟨rfl, rfl⟩
  · have e : mod3 n = n.tmod 3 := if_neg (by omega)
    rw [e]
    go_ret
    exact ⟨rfl, rfl⟩
end Go.Proofs.YtcjomjhaimlbmaaDoor
