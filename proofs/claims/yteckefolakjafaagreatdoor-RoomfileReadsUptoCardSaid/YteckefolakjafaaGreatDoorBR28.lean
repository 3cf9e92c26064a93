/-
  What is kept while the dice give out numbers, and what a function hands back through a cell. Conditions: as the lemmas state.
  A made set of weeks: Set of timetablemade.Dice gives back a number from 1 to 2^n - 1. Conditions: the dice lie in memory; n is from 1 to 20.
  Made grids and times: Grid, Time, One, OddGrid, OddTime of timetablemade.Dice. Conditions: the dice lie in memory; the grid is as made.
  Parse of times by the specification. Conditions: the variables hold what their text lays; the string fits into memory.
-/
import Derived.Test.YteckefolakjafaaGreatDoorBR01
import Derived.Test.YteckefolakjafaaGreatDoorBR27
import Derived.Test.YteckefolakjafaaGreatDoorBR09
import Derived.Test.YteckefolakjafaaGreatDoorBR13
import Derived.Handy
import Derived.Laws.ResultCell
import Derived.Laws.BitsAllLaws
import Derived.Laws.BitsLemmas
import Derived.Deep.RegionHeld3
set_option linter.unusedVariables false
namespace Go.Proofs.YteckefolakjafaaGreatDoor
open Go Go.Proofs Go.RowKit Go.Lib

section
variable {w0 w w' : World} {g c k k' : Nat} {A : Option Addr} {L : List Int}
end
theorem Rolled.cells {g : Nat} {w w' : World} (h : Rolled g w w') : ∀ b o, b ≠ g → w'.cell? ⟨b, o, none⟩ = w.cell? ⟨b, o, none⟩ := fun b o hb => World.cell?_of_block (w := w) (h.block b hb)
theorem Rolled.frozen {g : Nat} {w w' : World} (h : Rolled g w w') : ∀ b o, b ≠ g → w'.frozen? ⟨b, o, none⟩ = w.frozen? ⟨b, o, none⟩ := fun b o hb => World.frozen?_of_block (w := w) (h.block b hb)
theorem results_c {fn : Func} {p : Tmp} {A : TypeId} (h : fn.results = #[.cell p A]) (tmps : Array Value) (P : Program) (w : World) (a : Addr) (va : Value)
    (ha : tmps.getD p undef = .pointer (some a)) (hla : (loadVar A a).run P w = .ok va w) : (results fn tmps).run P w = .ok va w := by
  rw [Array.getD_eq_getD_getElem?] at ha
  simp only [results, h]
  simp [ha, hla, asAddr]
theorem cells_free {w : World} {b : Nat} {cs : Array Value} {t : TypeId} (h : w.heap[b]? = some (.cells cs t (0, 0))) (j : Nat) : w.frozen? ⟨b, j, none⟩ = false := by simp [World.frozen?, h]
theorem IntRow.rolled {B g : Nat} {a w : World} {v : Value} {l : List Int} (hr : IntRow a B v l) (h : Rolled g a w) (hg : g < B) : IntRow w B v l :=
  h.row hr (fun e => by have := World.ownsRow.lt hr g e; omega)
theorem heap_drawn (w : World) : ∀ (q b : Nat), (w.drewN q).heap[b]? = w.heap[b]?
  | 0, _ => rfl
  | q + 1, b => heap_drawn w q b
end Go.Proofs.YteckefolakjafaaGreatDoor

set_option linter.unusedVariables false
namespace Go.Proofs.YteckefolakjafaaGreatDoor
open Go Go.Proofs Go.RowKit Go.Lib

theorem set_ofInt (a : Nat) (ha : a < 9223372036854775808) : (BitVec.ofInt 64 (a : Int)).toNat = a := by
  rw [BitVec.ofInt_natCast, BitVec.toNat_ofNat]; exact Nat.mod_eq_of_lt (by omega)
theorem set_and (a b : Nat) (ha : a < 9223372036854775808) (hb : b < 9223372036854775808) : bits .and .i64 (a : Int) (b : Int) = ((a &&& b : Nat) : Int) := by
  have hx : a &&& b < 2 ^ 63 := Nat.and_lt_two_pow _ (by omega)
  show IntKind.i64.wrap ((BitVec.ofInt 64 (a : Int) &&& BitVec.ofInt 64 (b : Int)).toNat : Int) = _
  rw [BitVec.toNat_and, set_ofInt a ha, set_ofInt b hb, IntKind.wrap_i64]
  omega
theorem set_odd : ∀ n : Fin 21, 1 ≤ n.val → 1 ≤ 349525 &&& (2 ^ n.val - 1) ∧ 349525 &&& (2 ^ n.val - 1) < 2 ^ n.val := by decide
theorem set_odd' (n : Nat) (h1 : 1 ≤ n) (h2 : n ≤ 20) : ∃ v : Int, bits .and .i64 349525 ((2 : Int) ^ n - 1) = v ∧ 1 ≤ v ∧ v < 2 ^ n := by
  obtain ⟨a, b⟩ := set_odd ⟨n, by omega⟩ h1
  simp only at a b
  have hp : 2 ^ n ≤ 2 ^ 20 := Nat.pow_le_pow_right (by omega) h2
  have hp1 : 0 < 2 ^ n := Nat.two_pow_pos n
  have e : (2 : Int) ^ n - 1 = ((2 ^ n - 1 : Nat) : Int) := by
    rw [Int.natCast_sub (by omega), Int.natCast_pow]
    rfl
  refine ⟨_, rfl, ?_, ?_⟩
  · rw [e, show (349525 : Int) = ((349525 : Nat) : Int) by rfl, set_and _ _ (by omega) (by omega)]
    omega
  · rw [e, show (349525 : Int) = ((349525 : Nat) : Int) by rfl, set_and _ _ (by omega) (by omega)]
    rw [show (2 : Int) ^ n = ((2 ^ n : Nat) : Int) by rw [Int.natCast_pow]; rfl]
    omega

end Go.Proofs.YteckefolakjafaaGreatDoor

set_option linter.unusedVariables false
namespace Go.Proofs.YteckefolakjafaaGreatDoor
open Go Go.Proofs Go.RowKit Go.Lib

/-- Four numbers lie in a block that may be written. -/
def Cells4 (t : TypeId) (w : World) (B : Nat) (a b x d : Int) : Prop := w.heap[B]? = some (.cells #[.int .i64 a, .int .i64 b, .int .i64 x, .int .i64 d] t (0, 0))
section
variable {T : TypeId} {w w' : World} {B : Nat} {a b x d : Int}
theorem Cells4.box (h : Cells4 T w B a b x d) : Box4 w B a b x d := by
  unfold Cells4 at h
  refine ⟨?_, ?_, ?_, ?_, (Array.getElem?_eq_some_iff.1 h).1⟩
  all_goals (rw [Lib.cell_of_heap h]; rfl)
theorem Cells4.free (h : Cells4 T w B a b x d) (j : Nat) : w.frozen? ⟨B, j, none⟩ = false := cells_free h j
theorem Cells4.lt (h : Cells4 T w B a b x d) : B < w.heap.size := (Array.getElem?_eq_some_iff.1 h).1
theorem Cells4.under (h : Cells4 T w B a b x d) (k : Below w.heap.size w w') : Cells4 T w' B a b x d := (k.block _ h.lt).trans h
theorem Cells4.roll {g : Nat} (h : Cells4 T w B a b x d) (k : Rolled g w w') (hg : B ≠ g) : Cells4 T w' B a b x d := (k.block _ hg).trans h
theorem Cells4.other (h : Cells4 T w B a b x d) (R j : Nat) (v : Value) (hR : B ≠ R) : Cells4 T (w.setCell ⟨R, j, none⟩ v) B a b x d := (Below.heap_setCell w ⟨R, j, none⟩ v B (by show B ≠ R; exact hR)).trans h
theorem Cells4.set0 (h : Cells4 T w B a b x d) (v : Int) : Cells4 T (w.setCell ⟨B, 0, none⟩ (.int .i64 v)) B v b x d := by unfold Cells4; rw [heap_setCell_same w B 0 _ _ _ h]; rfl
theorem Cells4.set1 (h : Cells4 T w B a b x d) (v : Int) : Cells4 T (w.setCell ⟨B, 1, none⟩ (.int .i64 v)) B a v x d := by unfold Cells4; rw [heap_setCell_same w B 1 _ _ _ h]; rfl
theorem Cells4.set2 (h : Cells4 T w B a b x d) (v : Int) : Cells4 T (w.setCell ⟨B, 2, none⟩ (.int .i64 v)) B a b v d := by unfold Cells4; rw [heap_setCell_same w B 2 _ _ _ h]; rfl
theorem Cells4.set3 (h : Cells4 T w B a b x d) (v : Int) : Cells4 T (w.setCell ⟨B, 3, none⟩ (.int .i64 v)) B a b x v := by unfold Cells4; rw [heap_setCell_same w B 3 _ _ _ h]; rfl
theorem Cells4.all (h : Cells4 T w B a b x d) (v0 v1 v2 v3 : Int) : Cells4 T ((((w.setCell ⟨B, 0, none⟩ (.int .i64 v0)).setCell ⟨B, 1, none⟩ (.int .i64 v1)).setCell ⟨B, 2, none⟩ (.int .i64 v2)).setCell ⟨B, 3, none⟩ (.int .i64 v3)) B v0 v1 v2 v3 :=
  (((h.set0 v0).set1 v1).set2 v2).set3 v3
end
theorem Cells4.new (w : World) (a b x d : Int) (T : TypeId) : Cells4 T (w.alloc (.cells #[.int .i64 a, .int .i64 b, .int .i64 x, .int .i64 d] T)) w.heap.size a b x d := heap_alloc_new w _
theorem load_grid {w : World} {B : Nat} {a b x d : Int} (h : Cells4 24 w B a b x d) : (loadVar 24 ⟨B, 0, none⟩).run Tryz.prog w = .ok (.agg #[.int .i64 a, .int .i64 b, .int .i64 x, .int .i64 d]) w := by
  obtain ⟨h0, h1, h2, h3, _⟩ := h.box
  simp [loadVar, go_sem, h0, h1, h2, h3]
theorem load_time {w : World} {B : Nat} {a b x d : Int} (h : Cells4 55 w B a b x d) : (loadVar 55 ⟨B, 0, none⟩).run Tryz.prog w = .ok (.agg #[.int .i64 a, .int .i64 b, .int .i64 x, .int .i64 d]) w := by
  obtain ⟨h0, h1, h2, h3, _⟩ := h.box
  simp [loadVar, go_sem, h0, h1, h2, h3]
/-- A grid as it is made. -/
def MadeG (d s b m : Int) : Prop := (1 ≤ d ∧ d ≤ 5) ∧ (2 ≤ s ∧ s ≤ 8) ∧ (480 ≤ b ∧ b ≤ 585) ∧ (30 ≤ m ∧ m ≤ 60)
end Go.Proofs.YteckefolakjafaaGreatDoor

set_option linter.unusedVariables false
set_option linter.unusedSimpArgs false
namespace Go.Proofs.YteckefolakjafaaGreatDoor
open Go Go.Proofs Go.RowKit Go.Lib

theorem wdayI_some {x : Str} {k : Nat} (h : dayK x = some k) : wdayI x = (k : Int) := by unfold wdayI; rw [h]
theorem wdayI_none {x : Str} (h : dayK x = none) : wdayI x = -1 := by unfold wdayI; rw [h]
theorem body_bad {d s : Int} {n : Nat} {x : Str} (h : ¬ (wordsB x = true ∧ ¬ (fromN (wSlots x) = 0 ∨ toN (wSlots x) = 0))) : bodyT d s n x = ((0, 0, 0, 0), 4) := by
  unfold bodyT
  rw [if_neg h]
theorem body_day {d s : Int} {n : Nat} {x : Str} (h : dayK (wDay x) = none) : bodyT d s n x = ((0, 0, 0, 0), 4) := by
  unfold bodyT
  split
  · rw [h]
  · rfl
theorem body_good {d s : Int} {n : Nat} {x : Str} {k : Nat} (h : wordsB x = true) (h1 : fromN (wSlots x) ≠ 0) (h2 : toN (wSlots x) ≠ 0) (hd : dayK (wDay x) = some k) : bodyT d s n x = readT d s n x k := by
  unfold bodyT
  rw [if_pos ⟨h, by omega⟩, hd]
theorem words_two {x : Str} (h3 : wThree x = false) : wordsB x = true := decide_eq_true (fun h => by rw [h3] at h; simp at h)
theorem words_three {x : Str} (h4 : has 32 (wSet x) = false) (hc : wSet x ≠ []) : wordsB x = true := decide_eq_true (fun _ => ⟨hc, h4⟩)
theorem words_four {x : Str} (h4 : has 32 (wSet x) = true) : wordsB x = false := decide_eq_false (fun h => by
  cases h3 : wThree x with
  | false =>
    unfold wSet at h4
    unfold wThree at h3
    rw [(bef_miss 32 _ h3).2] at h4
    simp [has] at h4
  | true =>
    have := (h h3).2
    rw [h4] at this
    simp at this)
theorem words_nil {x : Str} (h3 : wThree x = true) (hc : wSet x = []) : wordsB x = false := decide_eq_false (fun h => (h h3).1 hc)
/-- A store elsewhere. -/
theorem PK.setT {w0 w : World} {d s b m : Int} {R : Nat} (h : PK w0 d s b m w) (hR : w0.heap.size + 2 ≤ R) (j : Nat) (v : Value) : PK w0 d s b m (w.setCell ⟨R, j, none⟩ v) := by
  have hx : ∀ o : Nat, (w.setCell ⟨R, j, none⟩ v).cell? ⟨w0.heap.size, o, none⟩ = w.cell? ⟨w0.heap.size, o, none⟩ := fun o => World.cell?_of_block (w := w) (Below.heap_setCell w ⟨R, j, none⟩ v _ (by show w0.heap.size ≠ R; omega))
  refine ⟨⟨(hx 0).trans h.x.c0, (hx 1).trans h.x.c1, (hx 2).trans h.x.c2, (hx 3).trans h.x.c3, ?_⟩, ?_, h.b.setCell (p := ⟨R, j, none⟩) (by show w0.heap.size ≤ R; omega) v⟩
  · have := h.x.lt
    simpa using this
  · exact (Below.heap_setCell w ⟨R, j, none⟩ v _ (by show w0.heap.size + 1 ≠ R; omega)).trans h.r
/-- Whether the text has the form. -/
def goodT (x : Str) : Prop := has 32 x = true ∧ has 32 (wSet x) = false ∧ (wThree x = false ∨ wThree x = true ∧ (wSet x == []) = false) ∧ ¬ wdayI (wDay x) < 0 ∧ fromN (wSlots x) ≠ 0 ∧ toN (wSlots x) ≠ 0
/-- Whether the text has the form; if it has, what it says. -/
inductive Way (d s : Int) (n : Nat) (x : Str) (two three four ce : Bool) (f g : Nat) (w : Int) (v : Nat) (e : Int) : (Int × Int × Int × Int) × Int → Prop
  | w1 : two = false → Way d s n x two three four ce f g w v e ((0, 0, 0, 0), 4)
  | w2 : two = true → four = true → Way d s n x two three four ce f g w v e ((0, 0, 0, 0), 4)
  | w3 : two = true → four = false → three = true → ce = true → Way d s n x two three four ce f g w v e ((0, 0, 0, 0), 4)
  | w4 : two = true → four = false → (three = false ∨ three = true ∧ ce = false) → w < 0 → Way d s n x two three four ce f g w v e ((0, 0, 0, 0), 4)
  | w5 : two = true → four = false → (three = false ∨ three = true ∧ ce = false) → ¬ w < 0 → f = 0 → Way d s n x two three four ce f g w v e ((0, 0, 0, 0), 4)
  | w6 : two = true → four = false → (three = false ∨ three = true ∧ ce = false) → ¬ w < 0 → f ≠ 0 → g = 0 → Way d s n x two three four ce f g w v e ((0, 0, 0, 0), 4)
  | g1 : two = true → four = false → (three = false ∨ three = true ∧ ce = false) → ¬ w < 0 → f ≠ 0 → g ≠ 0 → d ≤ w → Way d s n x two three four ce f g w v e ((0, 0, 0, 0), 14)
  | g2 : two = true → four = false → (three = false ∨ three = true ∧ ce = false) → ¬ w < 0 → f ≠ 0 → g ≠ 0 → ¬ d ≤ w → s < (g : Int) → Way d s n x two three four ce f g w v e ((0, 0, 0, 0), 14)
  | g3 : two = true → four = false → (three = false ∨ three = true ∧ ce = false) → ¬ w < 0 → f ≠ 0 → g ≠ 0 → ¬ d ≤ w → ¬ s < (g : Int) → g < f → Way d s n x two three four ce f g w v e ((0, 0, 0, 0), 14)
  | g4 : two = true → four = false → three = true → ce = false → ¬ w < 0 → f ≠ 0 → g ≠ 0 → ¬ d ≤ w → ¬ s < (g : Int) → ¬ g < f → e ≠ 0 → Way d s n x two three four ce f g w v e ((0, 0, 0, 0), e)
  | g5 : two = true → four = false → three = true → ce = false → ¬ w < 0 → f ≠ 0 → g ≠ 0 → ¬ d ≤ w → ¬ s < (g : Int) → ¬ g < f → e = 0 → Way d s n x two three four ce f g w v e (((v : Int), w, (f : Int) - 1, (g : Int) - (f : Int) + 1), 0)
  | g6 : two = true → four = false → three = false → ¬ w < 0 → f ≠ 0 → g ≠ 0 → ¬ d ≤ w → ¬ s < (g : Int) → ¬ g < f → Way d s n x two three four ce f g w v e (((2 : Int) ^ n - 1, w, (f : Int) - 1, (g : Int) - (f : Int) + 1), 0)
theorem ref_body {d s : Int} {n : Nat} {x : Str} {two three four ce : Bool} {f g : Nat} {w : Int} {v : Nat} {e : Int}
    (h2 : has 32 x = two) (h3 : wThree x = three) (h4 : has 32 (wSet x) = four) (hc : (wSet x == []) = ce) (hf : fromN (wSlots x) = f) (hg : toN (wSlots x) = g) (hw : wdayI (wDay x) = w) (hv : parseN (wSet x) n = (v, e)) :
    Way d s n x two three four ce f g w v e (bodyT d s n x) := by
  cases two with
  | false =>
    rw [body_bad (fun h => h.2 (.inl (slots_none h2)))]
    exact .w1 rfl
  | true =>
    cases four with
    | true =>
      rw [body_bad (fun h => by rw [words_four h4] at h; simp at h)]
      exact .w2 rfl rfl
    | false =>
      by_cases hbad : three = true ∧ ce = true
      · obtain ⟨rfl, rfl⟩ := hbad
        rw [body_bad (fun h => by rw [words_nil h3 (by simpa using hc)] at h; simp at h)]
        exact .w3 rfl rfl rfl rfl
      · have hok : three = false ∨ three = true ∧ ce = false := by cases three <;> cases ce <;> simp_all
        have hwb : wordsB x = true := by
          rcases hok with rfl | ⟨rfl, rfl⟩
          · exact words_two h3
          · exact words_three h4 (by simpa using hc)
        cases hd : dayK (wDay x) with
        | none =>
          rw [body_day hd]
          rw [wdayI_none hd] at hw
          exact .w4 rfl rfl hok (by omega)
        | some k =>
          rw [wdayI_some hd] at hw
          have hk7 := (dayK_some hd).1
          subst hw
          by_cases f0 : f = 0
          · rw [body_bad (fun h => h.2 (.inl (hf.trans f0)))]
            exact .w5 rfl rfl hok (by omega) f0
          · by_cases g0 : g = 0
            · rw [body_bad (fun h => h.2 (.inr (hg.trans g0)))]
              exact .w6 rfl rfl hok (by omega) f0 g0
            · rw [body_good hwb (by rw [hf]; exact f0) (by rw [hg]; exact g0) hd]
              unfold readT weeksT
              rw [hf, hg, h3, hv]
              by_cases a1 : d ≤ (k : Int)
              · rw [if_neg (by omega)]
                exact .g1 rfl rfl hok (by omega) f0 g0 a1
              · by_cases a2 : s < (g : Int)
                · rw [if_neg (by omega)]
                  exact .g2 rfl rfl hok (by omega) f0 g0 a1 a2
                · by_cases a3 : g < f
                  · rw [if_neg (fun h => h.2.1 a3)]
                    exact .g3 rfl rfl hok (by omega) f0 g0 a1 a2 a3
                  · rw [if_pos ⟨by omega, a3, by omega⟩]
                    rcases hok with rfl | ⟨rfl, rfl⟩
                    · rw [if_neg (show ¬ (false = true) by simp)]
                      rw [if_pos rfl]
                      have he : (((2 ^ n - 1 : Nat) : Nat) : Int) = (2 : Int) ^ n - 1 := by
                        have e : (2 : Int) ^ n = ((2 ^ n : Nat) : Int) := by rw [Int.natCast_pow]; rfl
                        have := Nat.two_pow_pos n
                        omega
                      dsimp only
                      rw [he]
                      exact .g6 rfl rfl rfl (by omega) f0 g0 a1 a2 a3
                    · rw [if_pos (show true = true from rfl)]
                      dsimp only
                      by_cases e0 : e = 0
                      · rw [if_pos e0]
                        exact .g5 rfl rfl rfl rfl (by omega) f0 g0 a1 a2 a3 e0
                      · rw [if_neg e0]
                        exact .g4 rfl rfl rfl rfl (by omega) f0 g0 a1 a2 a3 e0
end Go.Proofs.YteckefolakjafaaGreatDoor

