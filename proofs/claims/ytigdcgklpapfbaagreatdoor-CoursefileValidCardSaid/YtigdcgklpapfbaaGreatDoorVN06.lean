/-
  A time is read as it was written: plain mathematics. No program; condition: the time fits.
  The small functions of timegrid: within, minuteOf, endOf, isGrid, isFrame, Valid, Sound, Fits. Conditions: numbers that are added fit.
  Fits of timegrid. Condition: the start is a number of 64 bits.
-/
import Derived.Test.YtigdcgklpapfbaaGreatDoorVN01
import Derived.Test.YtigdcgklpapfbaaGreatDoorVN02
import Derived.Test.YtigdcgklpapfbaaGreatDoorVN03
import Derived.Test.YtigdcgklpapfbaaGreatDoorVN04
import Derived.Test.YtigdcgklpapfbaaGreatDoorProg
import Derived.WalkKit
import Derived.WalkSpells
import Derived.WalkLawsBesides
import Derived.Lib.Hide
import Derived.Deep.QuietTactic
import Derived.BigQuiet
import Derived.Laws.Rows
import Derived.OwnWalk
import Derived.Lib.BufferWrite
import Derived.Lib.UnsafeStr
import Derived.Laws.IdiomStrings
import Derived.Laws.BytesArg
import Derived.Laws.BytesString
import Derived.Laws.OwnMore
import Derived.Lib.IndexLaws
import Derived.Lib.ItoaNum
import Derived.Lib.Atoi
import Derived.Laws.BitsAllLaws
import Derived.Laws.BitsLemmas
import Derived.Deep.MidRow
import Derived.Shelf.Strings.Builder1
import Derived.Shelf.Strings.Builder2
import Derived.Shelf.Strings.OnBuilder
import Derived.Shelf.Strings.Trim
import Derived.Shelf.Small.Bits
import Derived.Shelf.Small.Strs
import Derived.Shelf.Small.Wraps
import Derived.Shelf.Strings.BuilderF
import Derived.Shelf.Strings.BuilderK
import Derived.Shelf.Strings.Builder2Cap
import Derived.Shelf.Strconv.Atoi
import Derived.Shelf.Strconv.Itoa0
import Derived.Shelf.Strconv.Itoa1
import Derived.Shelf.LaysM
import Derived.Shelf.Strconv.Itoa2
import Derived.Shelf.Strconv.Itoa3
import Derived.Shelf.Strconv.AtoiErrFast
import Derived.Shelf.Strconv.ParseIntEmpty
import Derived.Shelf.Strconv.AtoiFail
import Derived.Shelf.Strconv.Clone
import Derived.Shelf.Strconv.SyntaxError
import Derived.Shelf.LaysC
import Derived.Shelf.Strconv.ToError
import Derived.Shelf.Strconv.AtoiErr
import Derived.Shelf.Strings.Search1
import Derived.Shelf.Strings.Search2
import Derived.Shelf.Strings.Search3
import Derived.Shelf.Strings.Cut
import Derived.Shelf.Strings.Shaped
import Derived.Shelf.Strings.Prefix
import Derived.Shelf.Strings.Runes
import Derived.Shelf.Strings.AsciiSet
import Derived.Shelf.Bits.Mul64
import Derived.Shelf.Strings.Repeat
import Derived.Shelf.Unicode.DecodeSlow
import Derived.Shelf.Strings.BuilderCap
import Derived.Shelf.Slices.Turned
import Derived.Ground.SlgfProg
import Derived.Shelf.SlicesE.IndexFunc
import Derived.Lib.AtoiErrMem
import Derived.Handy
import Derived.Deep.RegionLaw
import Derived.Deep.RegionHeld3
set_option linter.unusedVariables false
namespace Go.Proofs.YtigdcgklpapfbaaGreatDoor
open Go Go.Lib

theorem valid_of' {k : Nat} {N : Int} (h : validM k N = true) : 1 ≤ N ∧ N ≤ 20 ∧ 1 ≤ k ∧ k < 2 ^ N.toNat := by
  obtain ⟨h1, h2, h3⟩ := of_decide_eq_true h
  refine ⟨h1.1, h1.2, by omega, ?_⟩
  have e : (2 : Int) ^ N.toNat = ((2 ^ N.toNat : Nat) : Int) := by rw [Int.natCast_pow]; rfl
  omega
theorem fits_of {d s b m n k y t l : Int} (h : fitsM d s b m n k y t l = 0) : frameB d s b m n = true ∧ soundB k y t l = true ∧ validM k n = true ∧ y < d ∧ t + l ≤ s := by
  unfold fitsM at h
  split at h
  · split at h
    · rename_i h1 h2
      exact ⟨h1, h2⟩
    · omega
  · omega
theorem form_lenM {s n : Nat} : (formN s n).length ≤ 200 := by
  unfold formN
  cases nameK s n with
  | some k =>
    show (wordS k).length ≤ 200
    unfold wordS
    split <;> simp
  | none =>
    show (textM s).length ≤ 200
    unfold textM
    have h1 := joinC_len ((runs (weeksP s 20)).map fun r => itemT r.1 r.2) (fun x hx => by
      obtain ⟨r, _, rfl⟩ := List.mem_map.1 hx
      exact itemT_len _ _)
    have h2 := runs_len _ (weeksP s 20) (Nat.le_refl _)
    have h3 := weeksP_len s 20
    rw [List.length_map] at h1
    omega
theorem time_len {n k y t l : Nat} : (timeT n k y t l).length ≤ 300 := by
  have h1 := form_lenM (s := k) (n := n)
  have h2 := itemT_len (t + 1) (t + l)
  have h3 : (dayS y).length ≤ 2 := by unfold dayS; split <;> simp
  unfold timeT
  split
  · simp only [List.length_append, List.length_cons, List.length_nil]
    omega
  · simp only [List.length_append, List.length_cons]
    omega
end Go.Proofs.YtigdcgklpapfbaaGreatDoor

set_option linter.unusedVariables false
namespace Go.Proofs.YtigdcgklpapfbaaGreatDoor
open Go Go.Proofs Go.RowKit Go.Lib

set_option maxHeartbeats 1000000 in
theorem within_any (n a b : Int) (w : World) : Calls Tryz.prog 105 #[.int .i64 n, .int .i64 a, .int .i64 b] w fun e w' => e = .returned (.bool (decide (a ≤ n ∧ n ≤ b))) ∧ w = w' := by
  by_cases h0 : a ≤ n
  · by_cases h1 : n ≤ b
    · rw [decide_eq_true ⟨h0, h1⟩]
      go_enter Tryz.func105, Tryz.ntmps105
      go_wp2
      go_ret
      exact ⟨rfl, rfl⟩
    · rw [decide_eq_false (fun h => h1 h.2)]
      go_enter Tryz.func105, Tryz.ntmps105
      go_wp2
      go_ret
      exact ⟨rfl, rfl⟩
  · rw [decide_eq_false (fun h => h0 h.1)]
    go_enter Tryz.func105, Tryz.ntmps105
    go_wp2
    go_ret
    exact ⟨rfl, rfl⟩
theorem within_yes {n a b : Int} (h : a ≤ n ∧ n ≤ b) (w : World) : Calls Tryz.prog 105 #[.int .i64 n, .int .i64 a, .int .i64 b] w fun e w' => e = .returned (.bool true) ∧ w = w' := by
  have := within_any n a b w
  rwa [decide_eq_true h] at this
theorem within_no {n a b : Int} (h : ¬ (a ≤ n ∧ n ≤ b)) (w : World) : Calls Tryz.prog 105 #[.int .i64 n, .int .i64 a, .int .i64 b] w fun e w' => e = .returned (.bool false) ∧ w = w' := by
  have := within_any n a b w
  rwa [decide_eq_false h] at this
theorem mul_in {q m : Int} (h1 : 0 ≤ q) (h2 : q ≤ 24) (h3 : 5 ≤ m) (h4 : m ≤ 120) : 0 ≤ q * m ∧ q * m ≤ 2880 := by
  refine ⟨Int.mul_nonneg h1 (by omega), ?_⟩
  exact Int.le_trans (Int.mul_le_mul h2 h4 (by omega) (by omega)) (by omega)
/-- A call that returns a value and turns nothing that was there. -/
def Says (v : Value) (w : World) (e : Ending) (w' : World) : Prop := e = .returned v ∧ Below w.heap.size w w'
/-- Four numbers lie in a block. -/
structure Box4 (w : World) (B : Nat) (a b c d : Int) : Prop where
  c0 : w.cell? ⟨B, 0, none⟩ = some (.int .i64 a)
  c1 : w.cell? ⟨B, 1, none⟩ = some (.int .i64 b)
  c2 : w.cell? ⟨B, 2, none⟩ = some (.int .i64 c)
  c3 : w.cell? ⟨B, 3, none⟩ = some (.int .i64 d)
  lt : B < w.heap.size
theorem Box4.next {w w' : World} {B N : Nat} {a b c d : Int} (h : Box4 w B a b c d) (k : Below N w w') (hN : B < N) : Box4 w' B a b c d := by
  have kc : ∀ o : Nat, w'.cell? ⟨B, o, none⟩ = w.cell? ⟨B, o, none⟩ := fun o => k.cell (p := ⟨B, o, none⟩) hN
  exact ⟨(kc 0).trans h.c0, (kc 1).trans h.c1, (kc 2).trans h.c2, (kc 3).trans h.c3, Nat.lt_of_lt_of_le h.lt k.size⟩
theorem Box4.new (w : World) (a b c d : Int) (t : TypeId) : Box4 (w.alloc (.cells #[.int .i64 a, .int .i64 b, .int .i64 c, .int .i64 d] t)) w.heap.size a b c d := by
  have e := heap_alloc_new w (.cells #[.int .i64 a, .int .i64 b, .int .i64 c, .int .i64 d] t)
  refine ⟨?_, ?_, ?_, ?_, by simp⟩
  all_goals (rw [Lib.cell_of_heap e]; rfl)
/-- One box, of a call that began in w0. -/
structure K1 (w0 : World) (a b c d : Int) (w : World) : Prop where
  x : Box4 w w0.heap.size a b c d
  b : Below w0.heap.size w0 w
theorem K1.next {w0 w w' : World} {a b c d : Int} (h : K1 w0 a b c d w) (k : Below w.heap.size w w') : K1 w0 a b c d w' := ⟨h.x.next k h.x.lt, h.b.trans (k.mono h.b.size)⟩
theorem K1.drew {w0 w : World} {a b c d : Int} (h : K1 w0 a b c d w) : K1 w0 a b c d w.drew := h.next (Below.refl _ w).drew
theorem K1.first (w : World) (a b c d : Int) (t : TypeId) : K1 w a b c d (w.alloc (.cells #[.int .i64 a, .int .i64 b, .int .i64 c, .int .i64 d] t)) := ⟨Box4.new w a b c d t, (Below.refl _ w).alloc (Nat.le_refl _) _⟩
/-- Two boxes. -/
structure K2 (w0 : World) (a b c d a' b' c' d' : Int) (w : World) : Prop where
  x : Box4 w w0.heap.size a b c d
  y : Box4 w (w0.heap.size + 1) a' b' c' d'
  b : Below w0.heap.size w0 w
section
variable {w0 w w' : World} {a b c d a' b' c' d' : Int}
theorem K2.next (h : K2 w0 a b c d a' b' c' d' w) (k : Below w.heap.size w w') : K2 w0 a b c d a' b' c' d' w' := ⟨h.x.next k h.x.lt, h.y.next k h.y.lt, h.b.trans (k.mono h.b.size)⟩
theorem K2.drew (h : K2 w0 a b c d a' b' c' d' w) : K2 w0 a b c d a' b' c' d' w.drew := h.next (Below.refl _ w).drew
end
theorem K2.first (w : World) (a b c d a' b' c' d' : Int) (t t' : TypeId) : K2 w a b c d a' b' c' d' ((w.alloc (.cells #[.int .i64 a, .int .i64 b, .int .i64 c, .int .i64 d] t)).alloc (.cells #[.int .i64 a', .int .i64 b', .int .i64 c', .int .i64 d'] t')) := by
  have h1 := K1.first w a b c d t
  have hs : (w.alloc (.cells #[.int .i64 a, .int .i64 b, .int .i64 c, .int .i64 d] t)).heap.size = w.heap.size + 1 := by simp
  generalize w.alloc (.cells #[.int .i64 a, .int .i64 b, .int .i64 c, .int .i64 d] t) = w1 at h1 hs ⊢
  have h2 := Box4.new w1 a' b' c' d' t'
  have k : Below w1.heap.size w1 (w1.alloc (.cells #[.int .i64 a', .int .i64 b', .int .i64 c', .int .i64 d'] t')) := (Below.refl _ w1).alloc (Nat.le_refl _) _
  rw [hs] at h2
  exact ⟨h1.x.next k h1.x.lt, h2, h1.b.trans (k.mono h1.b.size)⟩

set_option maxHeartbeats 1000000 in
theorem minuteOf_any (d s b m q : Int) (h1 : 0 ≤ q) (h2 : q ≤ 24) (h3 : 5 ≤ m) (h4 : m ≤ 120) (h5 : 0 ≤ b) (h6 : b ≤ 1439) (w : World) :
    Calls Tryz.prog 106 #[.agg #[.int .i64 d, .int .i64 s, .int .i64 b, .int .i64 m], .int .i64 q] w (Says (.int .i64 (b + q * m)) w) := by
  have hm := mul_in h1 h2 h3 h4
  have e1 : IntKind.i64.wrap (q * m) = q * m := IntWalk.i64_in _ (by omega)
  have e2 : IntKind.i64.wrap (b + q * m) = b + q * m := IntWalk.i64_in _ (by omega)
  have HK := hid (K1.first w d s b m 24)
  clear hm h1 h2 h3 h4 h5 h6
  unfold Says
  go_enter Tryz.func106, Tryz.ntmps106
  go_wp2
  go_ret
  exact ⟨rfl, HK.out.b⟩
set_option maxHeartbeats 1000000 in
theorem endOf_any (k y t l : Int) (h1 : 0 ≤ t) (h2 : t ≤ 24) (h3 : 0 ≤ l) (h4 : l ≤ 24) (w : World) :
    Calls Tryz.prog 148 #[.agg #[.int .i64 k, .int .i64 y, .int .i64 t, .int .i64 l]] w (Says (.int .i64 (t + l)) w) := by
  have HK := hid (K1.first w k y t l 66)
  unfold Says
  go_enter Tryz.func148, Tryz.ntmps148
  go_wp2
  go_ret
  exact ⟨rfl, HK.out.b⟩
theorem grid_no {d s b m : Int} (h : ¬ GridP d s b m) : gridB d s b m = false := decide_eq_false h
theorem grid_yes {d s b m : Int} (h : GridP d s b m) : gridB d s b m = true := decide_eq_true h

set_option maxHeartbeats 4000000 in
theorem isGrid_any (d s b m : Int) (w : World) : Calls Tryz.prog 74 #[.agg #[.int .i64 d, .int .i64 s, .int .i64 b, .int .i64 m]] w (Says (.bool (gridB d s b m)) w) := by
  by_cases hd : 1 ≤ d ∧ d ≤ 7
  · have c10 := fun w => within_yes hd w
    by_cases hs : 1 ≤ s ∧ s ≤ 24
    · have c11 := fun w => within_yes hs w
      by_cases hb : 0 ≤ b ∧ b ≤ 1439
      · have c12 := fun w => within_yes hb w
        by_cases hm : 5 ≤ m ∧ m ≤ 120
        · have c13 := fun w => within_yes hm w
          have cm := fun w => minuteOf_any d s b m s (by omega) hs.2 hm.1 hm.2 hb.1 hb.2 w
          by_cases h5 : b + s * m ≤ 1440
          · rw [grid_yes ⟨hd, hs, hb, hm, h5⟩]
            have h5d : decide (b + s * m ≤ 1440) = true := decide_eq_true h5
            unfold Says at cm ⊢
            generalize b + s * m = M at cm h5 h5d
            clear hd hs hb hm
            have hk := K1.first w d s b m 24
            go_enter Tryz.func74, Tryz.ntmps74
            go_wp2_with fail
            refine (c10 _).mono ?_
            rintro e w1 ⟨rfl, rfl⟩
            go_wp2_with fail
            refine (c11 _).mono ?_
            rintro e w1 ⟨rfl, rfl⟩
            go_wp2_with fail
            refine (c12 _).mono ?_
            rintro e w1 ⟨rfl, rfl⟩
            go_wp2_with fail
            refine (c13 _).mono ?_
            rintro e w1 ⟨rfl, rfl⟩
            go_wp2_with fail
            refine (cm _).mono ?_
            rintro e w1 ⟨rfl, hb⟩
            have hk := hk.next hb
            clear hb
            go_wp2
            go_ret
            exact ⟨rfl, hk.b⟩
          · rw [grid_no (fun h => h5 h.2.2.2.2)]
            have h5d : decide (b + s * m ≤ 1440) = false := decide_eq_false h5
            unfold Says at cm ⊢
            generalize b + s * m = M at cm h5 h5d
            clear hd hs hb hm
            have hk := K1.first w d s b m 24
            go_enter Tryz.func74, Tryz.ntmps74
            go_wp2_with fail
            refine (c10 _).mono ?_
            rintro e w1 ⟨rfl, rfl⟩
            go_wp2_with fail
            refine (c11 _).mono ?_
            rintro e w1 ⟨rfl, rfl⟩
            go_wp2_with fail
            refine (c12 _).mono ?_
            rintro e w1 ⟨rfl, rfl⟩
            go_wp2_with fail
            refine (c13 _).mono ?_
            rintro e w1 ⟨rfl, rfl⟩
            go_wp2_with fail
            refine (cm _).mono ?_
            rintro e w1 ⟨rfl, hb⟩
            have hk := hk.next hb
            clear hb
            go_wp2
            go_ret
            exact ⟨rfl, hk.b⟩
        · have c13 := fun w => within_no hm w
          rw [grid_no (fun h => hm h.2.2.2.1)]
          unfold Says
          clear hd hs hb hm
          have hk := K1.first w d s b m 24
          go_enter Tryz.func74, Tryz.ntmps74
          go_wp2_with fail
          refine (c10 _).mono ?_
          rintro e w1 ⟨rfl, rfl⟩
          go_wp2_with fail
          refine (c11 _).mono ?_
          rintro e w1 ⟨rfl, rfl⟩
          go_wp2_with fail
          refine (c12 _).mono ?_
          rintro e w1 ⟨rfl, rfl⟩
          go_wp2_with fail
          refine (c13 _).mono ?_
          rintro e w1 ⟨rfl, rfl⟩
          go_wp2
          go_ret
          exact ⟨rfl, hk.b⟩
      · have c12 := fun w => within_no hb w
        rw [grid_no (fun h => hb h.2.2.1)]
        unfold Says
        clear hd hs hb
        have hk := K1.first w d s b m 24
        go_enter Tryz.func74, Tryz.ntmps74
        go_wp2_with fail
        refine (c10 _).mono ?_
        rintro e w1 ⟨rfl, rfl⟩
        go_wp2_with fail
        refine (c11 _).mono ?_
        rintro e w1 ⟨rfl, rfl⟩
        go_wp2_with fail
        refine (c12 _).mono ?_
        rintro e w1 ⟨rfl, rfl⟩
        go_wp2
        go_ret
        exact ⟨rfl, hk.b⟩
    · have c11 := fun w => within_no hs w
      rw [grid_no (fun h => hs h.2.1)]
      unfold Says
      clear hd hs
      have hk := K1.first w d s b m 24
      go_enter Tryz.func74, Tryz.ntmps74
      go_wp2_with fail
      refine (c10 _).mono ?_
      rintro e w1 ⟨rfl, rfl⟩
      go_wp2_with fail
      refine (c11 _).mono ?_
      rintro e w1 ⟨rfl, rfl⟩
      go_wp2
      go_ret
      exact ⟨rfl, hk.b⟩
  · have c10 := fun w => within_no hd w
    rw [grid_no (fun h => hd h.1)]
    unfold Says
    clear hd
    have hk := K1.first w d s b m 24
    go_enter Tryz.func74, Tryz.ntmps74
    go_wp2_with fail
    refine (c10 _).mono ?_
    rintro e w1 ⟨rfl, rfl⟩
    go_wp2
    go_ret
    exact ⟨rfl, hk.b⟩
theorem frame_no {d s b m n : Int} (h : ¬ (gridB d s b m = true ∧ 1 ≤ n ∧ n ≤ 20)) : frameB d s b m n = false := decide_eq_false h
set_option maxHeartbeats 2000000 in
theorem isFrame_any (d s b m n : Int) (w : World) : Calls Tryz.prog 181 #[.agg #[.int .i64 d, .int .i64 s, .int .i64 b, .int .i64 m], .int .i64 n] w (Says (.bool (frameB d s b m n)) w) := by
  have cG := fun w => isGrid_any d s b m w
  unfold Says at cG ⊢
  cases hg : gridB d s b m with
  | true =>
    rw [hg] at cG
    by_cases h1 : 1 ≤ n ∧ n ≤ 20
    · have c1 := fun w => within_yes h1 w
      rw [show frameB d s b m n = true from decide_eq_true ⟨hg, h1⟩]
      clear hg h1
      have hk := K1.first w d s b m 24
      go_enter Tryz.func181, Tryz.ntmps181
      go_wp2_with fail
      refine (cG _).mono ?_
      rintro e w1 ⟨rfl, hb⟩
      have hk := hk.next hb
      clear hb
      go_wp2_with fail
      refine (c1 _).mono ?_
      rintro e w1 ⟨rfl, rfl⟩
      go_wp2
      go_ret
      exact ⟨rfl, hk.b⟩
    · have c1 := fun w => within_no h1 w
      rw [frame_no (fun h => h1 h.2)]
      clear hg h1
      have hk := K1.first w d s b m 24
      go_enter Tryz.func181, Tryz.ntmps181
      go_wp2_with fail
      refine (cG _).mono ?_
      rintro e w1 ⟨rfl, hb⟩
      have hk := hk.next hb
      clear hb
      go_wp2_with fail
      refine (c1 _).mono ?_
      rintro e w1 ⟨rfl, rfl⟩
      go_wp2
      go_ret
      exact ⟨rfl, hk.b⟩
  | false =>
    rw [hg] at cG
    rw [frame_no (fun h => by rw [hg] at h; exact absurd h.1 (by simp))]
    clear hg
    have hk := K1.first w d s b m 24
    go_enter Tryz.func181, Tryz.ntmps181
    go_wp2_with fail
    refine (cG _).mono ?_
    rintro e w1 ⟨rfl, hb⟩
    have hk := hk.next hb
    clear hb
    go_wp2
    go_ret
    exact ⟨rfl, hk.b⟩
set_option maxHeartbeats 2000000 in
theorem gvalid_any (d s b m : Int) (w : World) : Calls Tryz.prog 40 #[.agg #[.int .i64 d, .int .i64 s, .int .i64 b, .int .i64 m]] w (Says (.int .i64 (if gridB d s b m = true then 0 else 3)) w) := by
  have cG := fun w => isGrid_any d s b m w
  unfold Says at cG ⊢
  generalize gridB d s b m = B at cG ⊢
  cases B with
  | true =>
    rw [if_pos rfl]
    have hk := K1.first w d s b m 24
    go_enter Tryz.func40, Tryz.ntmps40
    go_wp2_with fail
    refine (cG _).mono ?_
    rintro e w1 ⟨rfl, hb⟩
    have hk := hk.next hb
    clear hb
    go_wp2
    go_ret
    exact ⟨rfl, hk.b⟩
  | false =>
    rw [if_neg (by simp)]
    have hk := K1.first w d s b m 24
    go_enter Tryz.func40, Tryz.ntmps40
    go_wp2_with fail
    refine (cG _).mono ?_
    rintro e w1 ⟨rfl, hb⟩
    have hk := hk.next hb
    clear hb
    go_wp2
    go_ret
    exact ⟨rfl, hk.b⟩
theorem sound_no {k y t l : Int} (h : ¬ SoundP k y t l) : soundB k y t l = false := decide_eq_false h
theorem sound_yes {k y t l : Int} (h : SoundP k y t l) : soundB k y t l = true := decide_eq_true h
set_option maxHeartbeats 4000000 in
theorem sound_any (k y t l : Int) (ht : t ≤ 9223372036854775807) (w : World) : Calls Tryz.prog 182 #[.agg #[.int .i64 k, .int .i64 y, .int .i64 t, .int .i64 l]] w (Says (.bool (soundB k y t l)) w) := by
  have cV := fun w => valid_any k 20 w
  unfold Says
  cases hv : validM k 20 with
  | false =>
    rw [hv] at cV
    rw [sound_no (fun h => by have := h.1; rw [hv] at this; simp at this)]
    clear hv
    have hk := K1.first w k y t l 66
    go_enter Tryz.func182, Tryz.ntmps182
    go_wp2_with fail
    refine (cV _).mono ?_
    rintro e w1 ⟨rfl, q, hq⟩
    have hk := hk.next (show Below _ _ w1 by rw [hq]; exact below_drewN (Below.refl _ _) q)
    clear hq
    obtain ⟨⟨c0, c1, c2, c3, lt0⟩, lb⟩ := id hk
    go_wp2
    go_ret
    exact ⟨rfl, hk.b⟩
  | true =>
    rw [hv] at cV
    by_cases hy : 0 ≤ y ∧ y ≤ 6
    · have c11 := fun w => within_yes hy w
      by_cases h0 : 0 ≤ t
      · have e1 : IntKind.i64.wrap (24 - t) = 24 - t := IntWalk.i64_in _ (by omega)
        by_cases hl : 1 ≤ l ∧ l ≤ 24 - t
        · have c12 := fun w => within_yes hl w
          rw [sound_yes ⟨hv, hy, h0, hl.1, by omega⟩]
          clear hv hy hl
          have hk := K1.first w k y t l 66
          go_enter Tryz.func182, Tryz.ntmps182
          go_wp2_with fail
          refine (cV _).mono ?_
          rintro e w1 ⟨rfl, q, hq⟩
          have hk := hk.next (show Below _ _ w1 by rw [hq]; exact below_drewN (Below.refl _ _) q)
          clear hq
          obtain ⟨⟨c0, c1, c2, c3, lt0⟩, lb⟩ := id hk
          go_wp2_with fail
          refine (c11 _).mono ?_
          rintro e w1 ⟨rfl, rfl⟩
          go_wp2_with fail
          refine (c12 _).mono ?_
          rintro e w1 ⟨rfl, rfl⟩
          go_wp2
          go_ret
          exact ⟨rfl, hk.b⟩
        · have c12 := fun w => within_no hl w
          rw [sound_no (fun h => hl ⟨h.2.2.2.1, by have := h.2.2.2.2; omega⟩)]
          clear hv hy hl
          have hk := K1.first w k y t l 66
          go_enter Tryz.func182, Tryz.ntmps182
          go_wp2_with fail
          refine (cV _).mono ?_
          rintro e w1 ⟨rfl, q, hq⟩
          have hk := hk.next (show Below _ _ w1 by rw [hq]; exact below_drewN (Below.refl _ _) q)
          clear hq
          obtain ⟨⟨c0, c1, c2, c3, lt0⟩, lb⟩ := id hk
          go_wp2_with fail
          refine (c11 _).mono ?_
          rintro e w1 ⟨rfl, rfl⟩
          go_wp2_with fail
          refine (c12 _).mono ?_
          rintro e w1 ⟨rfl, rfl⟩
          go_wp2
          go_ret
          exact ⟨rfl, hk.b⟩
      · rw [sound_no (fun h => h0 h.2.2.1)]
        clear hv hy
        have hk := K1.first w k y t l 66
        go_enter Tryz.func182, Tryz.ntmps182
        go_wp2_with fail
        refine (cV _).mono ?_
        rintro e w1 ⟨rfl, q, hq⟩
        have hk := hk.next (show Below _ _ w1 by rw [hq]; exact below_drewN (Below.refl _ _) q)
        clear hq
        obtain ⟨⟨c0, c1, c2, c3, lt0⟩, lb⟩ := id hk
        go_wp2_with fail
        refine (c11 _).mono ?_
        rintro e w1 ⟨rfl, rfl⟩
        go_wp2
        go_ret
        exact ⟨rfl, hk.b⟩
    · have c11 := fun w => within_no hy w
      rw [sound_no (fun h => hy h.2.1)]
      clear hv hy
      have hk := K1.first w k y t l 66
      go_enter Tryz.func182, Tryz.ntmps182
      go_wp2_with fail
      refine (cV _).mono ?_
      rintro e w1 ⟨rfl, q, hq⟩
      have hk := hk.next (show Below _ _ w1 by rw [hq]; exact below_drewN (Below.refl _ _) q)
      clear hq
      obtain ⟨⟨c0, c1, c2, c3, lt0⟩, lb⟩ := id hk
      go_wp2_with fail
      refine (c11 _).mono ?_
      rintro e w1 ⟨rfl, rfl⟩
      go_wp2
      go_ret
      exact ⟨rfl, hk.b⟩
end Go.Proofs.YtigdcgklpapfbaaGreatDoor

set_option linter.unusedVariables false
namespace Go.Proofs.YtigdcgklpapfbaaGreatDoor
open Go Go.Proofs Go.RowKit Go.Lib

set_option maxHeartbeats 8000000 in
set_option maxRecDepth 100000 in
theorem fits_any (d s b m n k y t l : Int) (ht : t ≤ 9223372036854775807) (w : World) : Calls Tryz.prog 147 #[.agg #[.int .i64 d, .int .i64 s, .int .i64 b, .int .i64 m], .int .i64 n, .agg #[.int .i64 k, .int .i64 y, .int .i64 t, .int .i64 l]] w (Says (.int .i64 (fitsM d s b m n k y t l)) w) := by
  have cF := fun w => isFrame_any d s b m n w
  have cS := fun w => sound_any k y t l ht w
  have cV := fun w => valid_any k n w
  unfold Says at cF cS ⊢
  cases hf : frameB d s b m n with
  | false =>
    rw [show fitsM d s b m n k y t l = 1 by unfold fitsM; rw [if_neg (by rw [hf]; simp)]]
    rw [hf] at cF
    clear hf cS cV
    have hk := K2.first w d s b m k y t l 24 66
    have HK := hid hk
    clear hk
    go_enter Tryz.func147, Tryz.ntmps147
    go_wp2_with fail
    refine (cF _).mono ?_
    rintro e w1 ⟨rfl, hb⟩
    have hk := HK.out.next hb
    clear hb HK
    go_wp2
    go_ret
    exact ⟨rfl, hk.b⟩
  | true =>
    rw [hf] at cF
    have cE : soundB k y t l = true → ∀ w, Calls Tryz.prog 148 #[.agg #[.int .i64 k, .int .i64 y, .int .i64 t, .int .i64 l]] w (Says (.int .i64 (t + l)) w) := fun hs w => by
      obtain ⟨s1, s2, s3, s4, s5⟩ := sound_of hs
      exact endOf_any k y t l s3 (by omega) (by omega) (by omega) w
    unfold Says at cE
    obtain ⟨S, hS⟩ : ∃ S, soundB k y t l = S := ⟨_, rfl⟩
    obtain ⟨V, hV⟩ : ∃ V, validM k n = V := ⟨_, rfl⟩
    have five : ((S = false ∨ V = false ∧ S = true) ∧ fitsM d s b m n k y t l = 14 ∨ S = true ∧ V = true ∧ d ≤ y ∧ fitsM d s b m n k y t l = 14) ∨ (S = true ∧ V = true ∧ ¬ d ≤ y ∧ (s < t + l ∧ fitsM d s b m n k y t l = 14 ∨ ¬ s < t + l ∧ fitsM d s b m n k y t l = 0)) := by
      unfold fitsM
      rw [if_pos hf, hS, hV]
      cases S <;> cases V <;> simp <;> omega
    rw [hS] at cS cE
    rw [hV] at cV
    generalize fitsM d s b m n k y t l = R at five ⊢
    clear hf hS hV
    rcases five with ((⟨rfl | ⟨rfl, rfl⟩, rfl⟩) | ⟨rfl, rfl, hy, rfl⟩) | ⟨rfl, rfl, hy, (⟨he, rfl⟩ | ⟨he, rfl⟩)⟩
    all_goals try have hy' : decide (d ≤ y) = true := decide_eq_true hy
    all_goals try have hy' : decide (d ≤ y) = false := decide_eq_false hy
    all_goals try have he' : decide (s < t + l) = true := decide_eq_true he
    all_goals try have he' : decide (s < t + l) = false := decide_eq_false he
    all_goals try replace cE := cE rfl
    all_goals
      have hk := K2.first w d s b m k y t l 24 66
      have HK := hid hk
      clear hk
      go_enter Tryz.func147, Tryz.ntmps147
      go_wp2_with fail
      refine (cF _).mono ?_
      rintro e w1 ⟨rfl, hb⟩
      have hk := HK.out.next hb
      clear hb HK
      go_wp2_with fail
      refine wp_region_held_drew (S := K2 w d s b m k y t l) (by kernel_rfl) hk.drew (fun hHeld => ?_)
      first
        | (refine wpAnyH_take (i := 0) (oi := _) (v := undef) rfl (by kernel_rfl) (by kernel_rfl) (by kernel_rfl) (fun _ _ _ h => h) (Or.inr ⟨by rfl, rfl⟩) (by assumption) ?_)
        | (refine wpAnyH_take (i := 0) (oi := _) (v := ?_) rfl (by kernel_rfl) (by kernel_rfl) (by kernel_rfl) (fun _ _ _ h => h) (Or.inl ⟨by rfl, ?_⟩) (by assumption) ?_; rotate_left; (intro wS hSw; obtain ⟨⟨x0, x1, x2, x3, _⟩, ⟨y0, y1, y2, y3, _⟩, _⟩ := hSw; (try simp only [List.getElem_toArray, List.getElem_cons_zero]); go_simp; (try with_reducible rfl)))
      try simp only [List.getElem_toArray, List.getElem_cons_zero, Act.put, List.setIfInBounds_toArray, List.set_cons_zero, List.set_cons_succ]
      first
        | (refine wpAnyH_take (i := 1) (oi := _) (v := undef) rfl (by kernel_rfl) (by kernel_rfl) (by kernel_rfl) (fun _ _ _ h => h) (Or.inr ⟨by rfl, rfl⟩) (by assumption) ?_)
        | (refine wpAnyH_ready (rs := [1]) (by kernel_rfl) (by simp) ?_; refine AllReadyH.cons (o := _) rfl (fun K hK => ?_) AllReadyH.nil; (try simp only [List.getElem_toArray, List.getElem_cons_succ, List.getElem_cons_zero]); go_simp; go_at_call 182; refine (cS _).mono ?_; rintro e w1 ⟨rfl, hb⟩; have hk2 := hHeld.next hb; clear hb hHeld; have hHeld := hk2; clear hk2; skip; go_wp2_with fail; refine hK.out _ _ hHeld (fun hHeld => ?_); clear hK K)
      try simp only [List.getElem_toArray, List.getElem_cons_succ, List.getElem_cons_zero, Act.put, List.setIfInBounds_toArray, List.set_cons_zero, List.set_cons_succ]
      first
        | (refine wpAnyH_take (i := 2) (oi := _) (v := undef) rfl (by kernel_rfl) (by kernel_rfl) (by kernel_rfl) (fun _ _ _ h => h) (Or.inr ⟨by rfl, rfl⟩) (by assumption) ?_)
        | (refine wpAnyH_take (i := 2) (oi := _) (v := ?_) rfl (by kernel_rfl) (by kernel_rfl) (by kernel_rfl) (fun _ _ _ h => h) (Or.inl ⟨by rfl, ?_⟩) (by assumption) ?_; rotate_left; (intro wS hSw; obtain ⟨⟨x0, x1, x2, x3, _⟩, ⟨y0, y1, y2, y3, _⟩, _⟩ := hSw; (try simp only [List.getElem_toArray, List.getElem_cons_succ, List.getElem_cons_zero]); go_simp; (try with_reducible rfl)))
      try simp only [List.getElem_toArray, List.getElem_cons_succ, List.getElem_cons_zero, Act.put, List.setIfInBounds_toArray, List.set_cons_zero, List.set_cons_succ]
      first
        | (refine wpAnyH_take (i := 3) (oi := _) (v := undef) rfl (by kernel_rfl) (by kernel_rfl) (by kernel_rfl) (fun _ _ _ h => h) (Or.inr ⟨by rfl, rfl⟩) (by assumption) ?_)
        | (refine wpAnyH_take (i := 3) (oi := _) (v := ?_) rfl (by kernel_rfl) (by kernel_rfl) (by kernel_rfl) (fun _ _ _ h => h) (Or.inl ⟨by rfl, ?_⟩) (by assumption) ?_; rotate_left; (intro wS hSw; obtain ⟨⟨x0, x1, x2, x3, _⟩, ⟨y0, y1, y2, y3, _⟩, _⟩ := hSw; (try simp only [List.getElem_toArray, List.getElem_cons_succ, List.getElem_cons_zero]); go_simp; (try with_reducible rfl)))
      try simp only [List.getElem_toArray, List.getElem_cons_succ, List.getElem_cons_zero, Act.put, List.setIfInBounds_toArray, List.set_cons_zero, List.set_cons_succ]
      first
        | (refine wpAnyH_take (i := 4) (oi := _) (v := undef) rfl (by kernel_rfl) (by kernel_rfl) (by kernel_rfl) (fun _ _ _ h => h) (Or.inr ⟨by rfl, rfl⟩) (by assumption) ?_)
        | (refine wpAnyH_take (i := 4) (oi := _) (v := ?_) rfl (by kernel_rfl) (by kernel_rfl) (by kernel_rfl) (fun _ _ _ h => h) (Or.inl ⟨by rfl, ?_⟩) (by assumption) ?_; rotate_left; (intro wS hSw; obtain ⟨⟨x0, x1, x2, x3, _⟩, ⟨y0, y1, y2, y3, _⟩, _⟩ := hSw; (try simp only [List.getElem_toArray, List.getElem_cons_succ, List.getElem_cons_zero]); go_simp; (try with_reducible rfl)))
      try simp only [List.getElem_toArray, List.getElem_cons_succ, List.getElem_cons_zero, Act.put, List.setIfInBounds_toArray, List.set_cons_zero, List.set_cons_succ]
      first
        | (refine wpAnyH_take (i := 5) (oi := _) (v := undef) rfl (by kernel_rfl) (by kernel_rfl) (by kernel_rfl) (fun _ _ _ h => h) (Or.inr ⟨by rfl, rfl⟩) (by assumption) ?_)
        | (refine wpAnyH_take (i := 5) (oi := _) (v := ?_) rfl (by kernel_rfl) (by kernel_rfl) (by kernel_rfl) (fun _ _ _ h => h) (Or.inl ⟨by rfl, ?_⟩) (by assumption) ?_; rotate_left; (intro wS hSw; obtain ⟨⟨x0, x1, x2, x3, _⟩, ⟨y0, y1, y2, y3, _⟩, _⟩ := hSw; (try simp only [List.getElem_toArray, List.getElem_cons_succ, List.getElem_cons_zero]); go_simp; (try with_reducible rfl)))
      try simp only [List.getElem_toArray, List.getElem_cons_succ, List.getElem_cons_zero, Act.put, List.setIfInBounds_toArray, List.set_cons_zero, List.set_cons_succ]
      first
        | (refine wpAnyH_take (i := 6) (oi := _) (v := undef) rfl (by kernel_rfl) (by kernel_rfl) (by kernel_rfl) (fun _ _ _ h => h) (Or.inr ⟨by rfl, rfl⟩) (by assumption) ?_)
        | (refine wpAnyH_take (i := 6) (oi := _) (v := ?_) rfl (by kernel_rfl) (by kernel_rfl) (by kernel_rfl) (fun _ _ _ h => h) (Or.inl ⟨by rfl, ?_⟩) (by assumption) ?_; rotate_left; (intro wS hSw; obtain ⟨⟨x0, x1, x2, x3, _⟩, ⟨y0, y1, y2, y3, _⟩, _⟩ := hSw; (try simp only [List.getElem_toArray, List.getElem_cons_succ, List.getElem_cons_zero]); go_simp; (try with_reducible rfl)))
      try simp only [List.getElem_toArray, List.getElem_cons_succ, List.getElem_cons_zero, Act.put, List.setIfInBounds_toArray, List.set_cons_zero, List.set_cons_succ]
      first
        | (refine wpAnyH_take (i := 7) (oi := _) (v := undef) rfl (by kernel_rfl) (by kernel_rfl) (by kernel_rfl) (fun _ _ _ h => h) (Or.inr ⟨by rfl, rfl⟩) (by assumption) ?_)
        | (refine wpAnyH_ready (rs := [7]) (by kernel_rfl) (by simp) ?_; refine AllReadyH.cons (o := _) rfl (fun K hK => ?_) AllReadyH.nil; (try simp only [List.getElem_toArray, List.getElem_cons_succ, List.getElem_cons_zero]); go_simp; go_at_call 111; refine (cV _).mono ?_; rintro e w1 ⟨rfl, q, hq⟩; have hk2 := hHeld.next (show Below _ _ w1 by rw [hq]; exact below_drewN (Below.refl _ _) q); clear hq hHeld; have hHeld := hk2; clear hk2; skip; go_wp2_with fail; refine hK.out _ _ hHeld (fun hHeld => ?_); clear hK K)
      try simp only [List.getElem_toArray, List.getElem_cons_succ, List.getElem_cons_zero, Act.put, List.setIfInBounds_toArray, List.set_cons_zero, List.set_cons_succ]
      first
        | (refine wpAnyH_take (i := 8) (oi := _) (v := undef) rfl (by kernel_rfl) (by kernel_rfl) (by kernel_rfl) (fun _ _ _ h => h) (Or.inr ⟨by rfl, rfl⟩) (by assumption) ?_)
        | (refine wpAnyH_take (i := 8) (oi := _) (v := ?_) rfl (by kernel_rfl) (by kernel_rfl) (by kernel_rfl) (fun _ _ _ h => h) (Or.inl ⟨by rfl, ?_⟩) (by assumption) ?_; rotate_left; (intro wS hSw; obtain ⟨⟨x0, x1, x2, x3, _⟩, ⟨y0, y1, y2, y3, _⟩, _⟩ := hSw; (try simp only [List.getElem_toArray, List.getElem_cons_succ, List.getElem_cons_zero]); go_simp; (try with_reducible rfl)))
      try simp only [List.getElem_toArray, List.getElem_cons_succ, List.getElem_cons_zero, Act.put, List.setIfInBounds_toArray, List.set_cons_zero, List.set_cons_succ]
      first
        | (refine wpAnyH_take (i := 9) (oi := _) (v := undef) rfl (by kernel_rfl) (by kernel_rfl) (by kernel_rfl) (fun _ _ _ h => h) (Or.inr ⟨by rfl, rfl⟩) (by assumption) ?_)
        | (refine wpAnyH_take (i := 9) (oi := _) (v := ?_) rfl (by kernel_rfl) (by kernel_rfl) (by kernel_rfl) (fun _ _ _ h => h) (Or.inl ⟨by rfl, ?_⟩) (by assumption) ?_; rotate_left; (intro wS hSw; obtain ⟨⟨x0, x1, x2, x3, _⟩, ⟨y0, y1, y2, y3, _⟩, _⟩ := hSw; (try simp only [List.getElem_toArray, List.getElem_cons_succ, List.getElem_cons_zero]); go_simp; (try with_reducible rfl)))
      try simp only [List.getElem_toArray, List.getElem_cons_succ, List.getElem_cons_zero, Act.put, List.setIfInBounds_toArray, List.set_cons_zero, List.set_cons_succ]
      first
        | (refine wpAnyH_take (i := 10) (oi := _) (v := undef) rfl (by kernel_rfl) (by kernel_rfl) (by kernel_rfl) (fun _ _ _ h => h) (Or.inr ⟨by rfl, rfl⟩) (by assumption) ?_)
        | (refine wpAnyH_take (i := 10) (oi := _) (v := ?_) rfl (by kernel_rfl) (by kernel_rfl) (by kernel_rfl) (fun _ _ _ h => h) (Or.inl ⟨by rfl, ?_⟩) (by assumption) ?_; rotate_left; (intro wS hSw; obtain ⟨⟨x0, x1, x2, x3, _⟩, ⟨y0, y1, y2, y3, _⟩, _⟩ := hSw; (try simp only [List.getElem_toArray, List.getElem_cons_succ, List.getElem_cons_zero]); go_simp; (try with_reducible rfl)))
      try simp only [List.getElem_toArray, List.getElem_cons_succ, List.getElem_cons_zero, Act.put, List.setIfInBounds_toArray, List.set_cons_zero, List.set_cons_succ]
      first
        | (refine wpAnyH_take (i := 11) (oi := _) (v := undef) rfl (by kernel_rfl) (by kernel_rfl) (by kernel_rfl) (fun _ _ _ h => h) (Or.inr ⟨by rfl, rfl⟩) (by assumption) ?_)
        | (refine wpAnyH_take (i := 11) (oi := _) (v := ?_) rfl (by kernel_rfl) (by kernel_rfl) (by kernel_rfl) (fun _ _ _ h => h) (Or.inl ⟨by rfl, ?_⟩) (by assumption) ?_; rotate_left; (intro wS hSw; obtain ⟨⟨x0, x1, x2, x3, _⟩, ⟨y0, y1, y2, y3, _⟩, _⟩ := hSw; (try simp only [List.getElem_toArray, List.getElem_cons_succ, List.getElem_cons_zero]); go_simp; (try with_reducible rfl)))
      try simp only [List.getElem_toArray, List.getElem_cons_succ, List.getElem_cons_zero, Act.put, List.setIfInBounds_toArray, List.set_cons_zero, List.set_cons_succ]
      first
        | (refine wpAnyH_take (i := 12) (oi := _) (v := undef) rfl (by kernel_rfl) (by kernel_rfl) (by kernel_rfl) (fun _ _ _ h => h) (Or.inr ⟨by rfl, rfl⟩) (by assumption) ?_)
        | (refine wpAnyH_take (i := 12) (oi := _) (v := ?_) rfl (by kernel_rfl) (by kernel_rfl) (by kernel_rfl) (fun _ _ _ h => h) (Or.inl ⟨by rfl, ?_⟩) (by assumption) ?_; rotate_left; (intro wS hSw; obtain ⟨⟨x0, x1, x2, x3, _⟩, ⟨y0, y1, y2, y3, _⟩, _⟩ := hSw; (try simp only [List.getElem_toArray, List.getElem_cons_succ, List.getElem_cons_zero]); go_simp; (try with_reducible rfl)))
      try simp only [List.getElem_toArray, List.getElem_cons_succ, List.getElem_cons_zero, Act.put, List.setIfInBounds_toArray, List.set_cons_zero, List.set_cons_succ]
      first
        | (refine wpAnyH_take (i := 13) (oi := _) (v := undef) rfl (by kernel_rfl) (by kernel_rfl) (by kernel_rfl) (fun _ _ _ h => h) (Or.inr ⟨by rfl, rfl⟩) (by assumption) ?_)
        | (refine wpAnyH_take (i := 13) (oi := _) (v := ?_) rfl (by kernel_rfl) (by kernel_rfl) (by kernel_rfl) (fun _ _ _ h => h) (Or.inl ⟨by rfl, ?_⟩) (by assumption) ?_; rotate_left; (intro wS hSw; obtain ⟨⟨x0, x1, x2, x3, _⟩, ⟨y0, y1, y2, y3, _⟩, _⟩ := hSw; (try simp only [List.getElem_toArray, List.getElem_cons_succ, List.getElem_cons_zero]); go_simp; (try with_reducible rfl)))
      try simp only [List.getElem_toArray, List.getElem_cons_succ, List.getElem_cons_zero, Act.put, List.setIfInBounds_toArray, List.set_cons_zero, List.set_cons_succ]
      first
        | (refine wpAnyH_take (i := 14) (oi := _) (v := undef) rfl (by kernel_rfl) (by kernel_rfl) (by kernel_rfl) (fun _ _ _ h => h) (Or.inr ⟨by rfl, rfl⟩) (by assumption) ?_)
        | (refine wpAnyH_take (i := 14) (oi := _) (v := ?_) rfl (by kernel_rfl) (by kernel_rfl) (by kernel_rfl) (fun _ _ _ h => h) (Or.inl ⟨by rfl, ?_⟩) (by assumption) ?_; rotate_left; (intro wS hSw; obtain ⟨⟨x0, x1, x2, x3, _⟩, ⟨y0, y1, y2, y3, _⟩, _⟩ := hSw; (try simp only [List.getElem_toArray, List.getElem_cons_succ, List.getElem_cons_zero]); go_simp; (try with_reducible rfl)))
      try simp only [List.getElem_toArray, List.getElem_cons_succ, List.getElem_cons_zero, Act.put, List.setIfInBounds_toArray, List.set_cons_zero, List.set_cons_succ]
      first
        | (refine wpAnyH_take (i := 15) (oi := _) (v := undef) rfl (by kernel_rfl) (by kernel_rfl) (by kernel_rfl) (fun _ _ _ h => h) (Or.inr ⟨by rfl, rfl⟩) (by assumption) ?_)
        | (refine wpAnyH_take (i := 15) (oi := _) (v := ?_) rfl (by kernel_rfl) (by kernel_rfl) (by kernel_rfl) (fun _ _ _ h => h) (Or.inl ⟨by rfl, ?_⟩) (by assumption) ?_; rotate_left; (intro wS hSw; obtain ⟨⟨x0, x1, x2, x3, _⟩, ⟨y0, y1, y2, y3, _⟩, _⟩ := hSw; (try simp only [List.getElem_toArray, List.getElem_cons_succ, List.getElem_cons_zero]); go_simp; (try with_reducible rfl)))
      try simp only [List.getElem_toArray, List.getElem_cons_succ, List.getElem_cons_zero, Act.put, List.setIfInBounds_toArray, List.set_cons_zero, List.set_cons_succ]
      first
        | (refine wpAnyH_take (i := 16) (oi := _) (v := undef) rfl (by kernel_rfl) (by kernel_rfl) (by kernel_rfl) (fun _ _ _ h => h) (Or.inr ⟨by rfl, rfl⟩) (by assumption) ?_)
        | (refine wpAnyH_take (i := 16) (oi := _) (v := ?_) rfl (by kernel_rfl) (by kernel_rfl) (by kernel_rfl) (fun _ _ _ h => h) (Or.inl ⟨by rfl, ?_⟩) (by assumption) ?_; rotate_left; (intro wS hSw; obtain ⟨⟨x0, x1, x2, x3, _⟩, ⟨y0, y1, y2, y3, _⟩, _⟩ := hSw; (try simp only [List.getElem_toArray, List.getElem_cons_succ, List.getElem_cons_zero]); go_simp; (try with_reducible rfl)))
      try simp only [List.getElem_toArray, List.getElem_cons_succ, List.getElem_cons_zero, Act.put, List.setIfInBounds_toArray, List.set_cons_zero, List.set_cons_succ]
      first
        | (refine wpAnyH_take (i := 17) (oi := _) (v := undef) rfl (by kernel_rfl) (by kernel_rfl) (by kernel_rfl) (fun _ _ _ h => h) (Or.inr ⟨by rfl, rfl⟩) (by assumption) ?_)
        | (refine wpAnyH_take (i := 17) (oi := _) (v := ?_) rfl (by kernel_rfl) (by kernel_rfl) (by kernel_rfl) (fun _ _ _ h => h) (Or.inl ⟨by rfl, ?_⟩) (by assumption) ?_; rotate_left; (intro wS hSw; obtain ⟨⟨x0, x1, x2, x3, _⟩, ⟨y0, y1, y2, y3, _⟩, _⟩ := hSw; (try simp only [List.getElem_toArray, List.getElem_cons_succ, List.getElem_cons_zero]); go_simp; (try with_reducible rfl)))
      try simp only [List.getElem_toArray, List.getElem_cons_succ, List.getElem_cons_zero, Act.put, List.setIfInBounds_toArray, List.set_cons_zero, List.set_cons_succ]
      first
        | (refine wpAnyH_take (i := 18) (oi := _) (v := undef) rfl (by kernel_rfl) (by kernel_rfl) (by kernel_rfl) (fun _ _ _ h => h) (Or.inr ⟨by rfl, rfl⟩) (by assumption) ?_)
        | (refine wpAnyH_take (i := 18) (oi := _) (v := ?_) rfl (by kernel_rfl) (by kernel_rfl) (by kernel_rfl) (fun _ _ _ h => h) (Or.inl ⟨by rfl, ?_⟩) (by assumption) ?_; rotate_left; (intro wS hSw; obtain ⟨⟨x0, x1, x2, x3, _⟩, ⟨y0, y1, y2, y3, _⟩, _⟩ := hSw; (try simp only [List.getElem_toArray, List.getElem_cons_succ, List.getElem_cons_zero]); go_simp; (try with_reducible rfl)))
      try simp only [List.getElem_toArray, List.getElem_cons_succ, List.getElem_cons_zero, Act.put, List.setIfInBounds_toArray, List.set_cons_zero, List.set_cons_succ]
      first
        | (refine wpAnyH_take (i := 20) (oi := _) (v := undef) rfl (by kernel_rfl) (by kernel_rfl) (by kernel_rfl) (fun _ _ _ h => h) (Or.inr ⟨by rfl, rfl⟩) (by assumption) ?_)
        | (refine wpAnyH_take (i := 20) (oi := _) (v := ?_) rfl (by kernel_rfl) (by kernel_rfl) (by kernel_rfl) (fun _ _ _ h => h) (Or.inl ⟨by rfl, ?_⟩) (by assumption) ?_; rotate_left; (intro wS hSw; obtain ⟨⟨x0, x1, x2, x3, _⟩, ⟨y0, y1, y2, y3, _⟩, _⟩ := hSw; (try simp only [List.getElem_toArray, List.getElem_cons_succ, List.getElem_cons_zero]); go_simp; (try with_reducible rfl)))
      try simp only [List.getElem_toArray, List.getElem_cons_succ, List.getElem_cons_zero, Act.put, List.setIfInBounds_toArray, List.set_cons_zero, List.set_cons_succ]
      first
        | (refine wpAnyH_take (i := 21) (oi := _) (v := undef) rfl (by kernel_rfl) (by kernel_rfl) (by kernel_rfl) (fun _ _ _ h => h) (Or.inr ⟨by rfl, rfl⟩) (by assumption) ?_)
        | (refine wpAnyH_take (i := 21) (oi := _) (v := ?_) rfl (by kernel_rfl) (by kernel_rfl) (by kernel_rfl) (fun _ _ _ h => h) (Or.inl ⟨by rfl, ?_⟩) (by assumption) ?_; rotate_left; (intro wS hSw; obtain ⟨⟨x0, x1, x2, x3, _⟩, ⟨y0, y1, y2, y3, _⟩, _⟩ := hSw; (try simp only [List.getElem_toArray, List.getElem_cons_succ, List.getElem_cons_zero]); go_simp; (try with_reducible rfl)))
      try simp only [List.getElem_toArray, List.getElem_cons_succ, List.getElem_cons_zero, Act.put, List.setIfInBounds_toArray, List.set_cons_zero, List.set_cons_succ]
      first
        | (refine wpAnyH_take (i := 19) (oi := _) (v := undef) rfl (by kernel_rfl) (by kernel_rfl) (by kernel_rfl) (fun _ _ _ h => h) (Or.inr ⟨by rfl, rfl⟩) (by assumption) ?_)
        | (refine wpAnyH_ready (rs := [19]) (by kernel_rfl) (by simp) ?_; refine AllReadyH.cons (o := _) rfl (fun K hK => ?_) AllReadyH.nil; (try simp only [List.getElem_toArray, List.getElem_cons_succ, List.getElem_cons_zero]); go_simp; go_at_call 148; refine (cE _).mono ?_; rintro e w1 ⟨rfl, hb⟩; have hk2 := hHeld.next hb; clear hb hHeld; have hHeld := hk2; clear hk2; skip; go_wp2_with fail; refine hK.out _ _ hHeld (fun hHeld => ?_); clear hK K)
      try simp only [List.getElem_toArray, List.getElem_cons_succ, List.getElem_cons_zero, Act.put, List.setIfInBounds_toArray, List.set_cons_zero, List.set_cons_succ]
      first
        | (refine wpAnyH_take (i := 22) (oi := _) (v := undef) rfl (by kernel_rfl) (by kernel_rfl) (by kernel_rfl) (fun _ _ _ h => h) (Or.inr ⟨by rfl, rfl⟩) (by assumption) ?_)
        | (refine wpAnyH_take (i := 22) (oi := _) (v := ?_) rfl (by kernel_rfl) (by kernel_rfl) (by kernel_rfl) (fun _ _ _ h => h) (Or.inl ⟨by rfl, ?_⟩) (by assumption) ?_; rotate_left; (intro wS hSw; obtain ⟨⟨x0, x1, x2, x3, _⟩, ⟨y0, y1, y2, y3, _⟩, _⟩ := hSw; (try simp only [List.getElem_toArray, List.getElem_cons_succ, List.getElem_cons_zero]); go_simp; (try with_reducible rfl)))
      try simp only [List.getElem_toArray, List.getElem_cons_succ, List.getElem_cons_zero, Act.put, List.setIfInBounds_toArray, List.set_cons_zero, List.set_cons_succ]
      first
        | (refine wpAnyH_take (i := 23) (oi := _) (v := undef) rfl (by kernel_rfl) (by kernel_rfl) (by kernel_rfl) (fun _ _ _ h => h) (Or.inr ⟨by rfl, rfl⟩) (by assumption) ?_)
        | (refine wpAnyH_take (i := 23) (oi := _) (v := ?_) rfl (by kernel_rfl) (by kernel_rfl) (by kernel_rfl) (fun _ _ _ h => h) (Or.inl ⟨by rfl, ?_⟩) (by assumption) ?_; rotate_left; (intro wS hSw; obtain ⟨⟨x0, x1, x2, x3, _⟩, ⟨y0, y1, y2, y3, _⟩, _⟩ := hSw; (try simp only [List.getElem_toArray, List.getElem_cons_succ, List.getElem_cons_zero]); go_simp; (try with_reducible rfl)))
      try simp only [List.getElem_toArray, List.getElem_cons_succ, List.getElem_cons_zero, Act.put, List.setIfInBounds_toArray, List.set_cons_zero, List.set_cons_succ]
      first
        | (refine wpAnyH_take (i := 24) (oi := _) (v := undef) rfl (by kernel_rfl) (by kernel_rfl) (by kernel_rfl) (fun _ _ _ h => h) (Or.inr ⟨by rfl, rfl⟩) (by assumption) ?_)
        | (refine wpAnyH_take (i := 24) (oi := _) (v := ?_) rfl (by kernel_rfl) (by kernel_rfl) (by kernel_rfl) (fun _ _ _ h => h) (Or.inl ⟨by rfl, ?_⟩) (by assumption) ?_; rotate_left; (intro wS hSw; obtain ⟨⟨x0, x1, x2, x3, _⟩, ⟨y0, y1, y2, y3, _⟩, _⟩ := hSw; (try simp only [List.getElem_toArray, List.getElem_cons_succ, List.getElem_cons_zero]); go_simp; (try with_reducible rfl)))
      try simp only [List.getElem_toArray, List.getElem_cons_succ, List.getElem_cons_zero, Act.put, List.setIfInBounds_toArray, List.set_cons_zero, List.set_cons_succ]
      refine wpAnyH_done (by kernel_rfl) ?_ _
      go_wp2
      go_ret
      exact ⟨rfl, hHeld.b⟩
end Go.Proofs.YtigdcgklpapfbaaGreatDoor

