/-
  A time is read as it was written: plain mathematics. No program; condition: the time fits.
  The small functions of timegrid: within, minuteOf, endOf, isGrid, isFrame, Valid, Sound, Fits. Conditions: numbers that are added fit.
-/
import Derived.Test.YtigdcgklpapfbaaGreatDoorVR04
import Derived.Deep.RegionHeld3
set_option linter.unusedVariables false
namespace Go.Proofs.YtigdcgklpapfbaaGreatDoor
open Go Go.Lib

theorem cutAt (c : UInt8) : ∀ (a r : Str), has c a = false → bef c (a ++ c :: r) = a ∧ aft c (a ++ c :: r) = r ∧ has c (a ++ c :: r) = true
  | [], r, _ => by simp [bef, aft, has]
  | x :: a, r, h => by
    simp [has] at h
    obtain ⟨h1, h2, h3⟩ := cutAt c a r h.2
    simp only [List.cons_append, bef, aft, has, if_neg h.1, h1, h2, h3]
    simp
theorem item24 : ∀ a b : Fin 25, 1 ≤ a.val → a.val ≤ b.val → fromN (itemT a.val b.val) = a.val ∧ toN (itemT a.val b.val) = b.val ∧ has 32 (itemT a.val b.val) = false := by decide +kernel
theorem join_space : ∀ (l : List Str), (∀ x ∈ l, has 32 x = false) → has 32 (joinC l) = false
  | [], _ => rfl
  | [x], h => h x (by simp)
  | x :: y :: l, h => by
    show has 32 (x ++ 44 :: joinC (y :: l)) = false
    rw [has_app, h x (by simp)]
    simp only [has]
    rw [join_space (y :: l) (fun z hz => h z (List.mem_cons_of_mem _ hz))]
    rfl
theorem word_space : ∀ k : Fin 5, has 32 (wordS k.val) = false := by decide
theorem form_space {s n : Nat} (hs : s < 2 ^ n) (hn : n ≤ 20) : has 32 (formN s n) = false := by
  unfold formN
  cases h : nameK s n with
  | some k => exact word_space ⟨k, (nameK_of h).1⟩
  | none =>
    refine join_space _ (fun x hx => ?_)
    obtain ⟨r, hr, rfl⟩ := List.mem_map.1 hx
    obtain ⟨h1, h2, h3⟩ := runs_ok hs hn r hr
    exact (item24 ⟨r.1, by omega⟩ ⟨r.2, by omega⟩ h1 h2).2.2
theorem parseN_form {s n : Nat} (h1 : 1 ≤ s) (hs : s < 2 ^ n) (hn1 : 1 ≤ n) (hn : n ≤ 20) : parseN (formN s n) n = (s, 0) := by
  have h := parse_form h1 hs hn1 hn
  unfold parseM at h
  rw [if_pos (by omega), Int.toNat_natCast] at h
  exact h
theorem parseN_nil (n : Nat) : parseN [] n = (0, 4) := by
  have h : goP n (splitL []) 0 = (0, 4) := by
    show goP n [[]] 0 = _
    have h0 : itemM [] n = (0, 4) := by
      unfold itemM
      rw [show kindOf [] = none by decide]
      rfl
    rw [goP_err (by rw [h0]; simp), h0]
  unfold parseN
  rw [h]
  rfl
theorem valid_of' {k : Nat} {N : Int} (h : validM k N = true) : 1 ≤ N ∧ N ≤ 20 ∧ 1 ≤ k ∧ k < 2 ^ N.toNat := by
  obtain ⟨h1, h2, h3⟩ := of_decide_eq_true h
  refine ⟨h1.1, h1.2, by omega, ?_⟩
  have e : (2 : Int) ^ N.toNat = ((2 ^ N.toNat : Nat) : Int) := by rw [Int.natCast_pow]; rfl
  omega
theorem fits_of {d s b m n k y t l : Int} (h : fitsM d s b m n k y t l = 0) : frameB d s b m n = true ∧ soundB k y t l = true ∧ validM k n = true ∧ y < d ∧ t + l ≤ s := by
  unfold fitsM at h
  split at h
  · split at h
    · rename_i h1 h2
      exact ⟨h1, h2⟩
    · omega
  · omega
theorem time_parts {n k y t l : Nat} (hy : y < 7) (hl : 1 ≤ l) (htl : t + l ≤ 24) (h1 : 1 ≤ k) (hk : k < 2 ^ n) (hn : n ≤ 20) :
    wDay (timeT n k y t l) = dayS y ∧ wSlots (timeT n k y t l) = itemT (t + 1) (t + l) ∧ has 32 (timeT n k y t l) = true ∧
    wThree (timeT n k y t l) = decide (formN k n ≠ [97, 108, 108]) ∧ (formN k n ≠ [97, 108, 108] → wSet (timeT n k y t l) = formN k n) := by
  have hi := (item24 ⟨t + 1, by omega⟩ ⟨t + l, by omega⟩ (by simp) (by simp; omega)).2.2
  dsimp only at hi
  have hd := day_sign ⟨y, hy⟩
  dsimp only at hd
  unfold wDay wSlots wThree wSet timeT
  by_cases hf : formN k n = [97, 108, 108]
  · rw [if_pos hf, List.append_nil]
    obtain ⟨a1, a2, a3⟩ := cutAt 32 (dayS y) (itemT (t + 1) (t + l)) hd
    rw [a1, a2, a3, hi]
    exact ⟨rfl, (bef_miss 32 _ hi).1, rfl, (decide_eq_false (fun h => h hf)).symm, fun h => absurd hf h⟩
  · rw [if_neg hf]
    rw [List.append_assoc, List.cons_append]
    obtain ⟨a1, a2, a3⟩ := cutAt 32 (dayS y) (itemT (t + 1) (t + l) ++ 32 :: formN k n) hd
    obtain ⟨b1, b2, b3⟩ := cutAt 32 (itemT (t + 1) (t + l)) (formN k n) hi
    rw [a1, a2, a3, b1, b2, b3]
    exact ⟨rfl, rfl, rfl, (decide_eq_true hf).symm, fun _ => rfl⟩
theorem time_read {d s b m : Int} {n k y t l : Nat} (hf : fitsM d s b m n k y t l = 0) : timeM d s b m n (timeT n k y t l) = (((k : Int), (y : Int), (t : Int), (l : Int)), 0) := by
  obtain ⟨f1, f2, f3, f4, f5⟩ := fits_of hf
  obtain ⟨g1, g2, g3⟩ := frame_of f1
  obtain ⟨s1, s2, s3, s4, s5⟩ := sound_of f2
  obtain ⟨v1, v2, v3, v4⟩ := valid_of' f3
  rw [Int.toNat_natCast] at v4
  have hn : n ≤ 20 := by omega
  obtain ⟨p1, p2, p3, p4, p5⟩ := time_parts (n := n) (k := k) (y := y) (t := t) (l := l) (by omega) (by omega) (by omega) v3 v4 hn
  have hi := item24 ⟨t + 1, by omega⟩ ⟨t + l, by omega⟩ (by simp) (by simp; omega)
  dsimp only at hi
  obtain ⟨i1, i2, i3⟩ := hi
  have hform := parseN_form v3 v4 (show 1 ≤ n by omega) hn
  have hW : weeksT (timeT n k y t l) n = (k, 0) := by
    unfold weeksT
    rw [p4]
    by_cases hfa : formN k n = [97, 108, 108]
    · rw [if_neg (by simp [hfa])]
      rw [hfa, parse_all (by omega) hn] at hform
      exact hform
    · rw [if_pos (decide_eq_true hfa), p5 hfa]
      exact hform
  have hwb : wordsB (timeT n k y t l) = true := by
    unfold wordsB
    rw [p4]
    refine decide_eq_true (fun h => ?_)
    have hfa := of_decide_eq_true h
    rw [p5 hfa]
    refine ⟨fun e => ?_, form_space v4 hn⟩
    rw [e, parseN_nil] at hform
    injection hform with h1 h2
    simp at h2
  unfold timeM
  rw [if_pos f1, Int.toNat_natCast]
  unfold bodyT
  rw [p1, p2, i1, i2, if_pos ⟨hwb, by omega⟩, dayK_of (show y < 7 by omega) rfl]
  show readT d s n _ y = _
  unfold readT
  rw [p2, i1, i2, hW, if_pos ⟨f4, by omega, by omega⟩, if_pos rfl]
  dsimp only
  congr 1
  refine Prod.ext rfl (Prod.ext rfl (Prod.ext ?_ ?_))
  · show ((t + 1 : Nat) : Int) - 1 = t
    omega
  · show ((t + l : Nat) : Int) - ((t + 1 : Nat) : Int) + 1 = l
    omega
theorem form_lenM {s n : Nat} : (formN s n).length ≤ 200 := by
  unfold formN
  cases nameK s n with
  | some k =>
    show (wordS k).length ≤ 200
    unfold wordS
    split <;> simp
  | none =>
    show (textM s).length ≤ 200
    unfold textM
    have h1 := joinC_len ((runs (weeksP s 20)).map fun r => itemT r.1 r.2) (fun x hx => by
      obtain ⟨r, _, rfl⟩ := List.mem_map.1 hx
      exact itemT_len _ _)
    have h2 := runs_len _ (weeksP s 20) (Nat.le_refl _)
    have h3 := weeksP_len s 20
    rw [List.length_map] at h1
    omega
theorem time_len {n k y t l : Nat} : (timeT n k y t l).length ≤ 300 := by
  have h1 := form_lenM (s := k) (n := n)
  have h2 := itemT_len (t + 1) (t + l)
  have h3 : (dayS y).length ≤ 2 := by unfold dayS; split <;> simp
  unfold timeT
  split
  · simp only [List.length_append, List.length_cons, List.length_nil]
    omega
  · simp only [List.length_append, List.length_cons]
    omega
end Go.Proofs.YtigdcgklpapfbaaGreatDoor

set_option linter.unusedVariables false
namespace Go.Proofs.YtigdcgklpapfbaaGreatDoor
open Go Go.Proofs Go.RowKit Go.Lib

set_option maxHeartbeats 1000000 in
theorem within_any (n a b : Int) (w : World) : Calls Tryz.prog 105 #[.int .i64 n, .int .i64 a, .int .i64 b] w fun e w' => e = .returned (.bool (decide (a ≤ n ∧ n ≤ b))) ∧ w = w' := by
  by_cases h0 : a ≤ n
  · by_cases h1 : n ≤ b
    · rw [decide_eq_true ⟨h0, h1⟩]
      go_enter Tryz.func105, Tryz.ntmps105
      go_wp2
      go_ret
      exact ⟨rfl, rfl⟩
    · rw [decide_eq_false (fun h => h1 h.2)]
      go_enter Tryz.func105, Tryz.ntmps105
      go_wp2
      go_ret
      exact ⟨rfl, rfl⟩
  · rw [decide_eq_false (fun h => h0 h.1)]
    go_enter Tryz.func105, Tryz.ntmps105
    go_wp2
    go_ret
    exact ⟨rfl, rfl⟩
theorem within_yes {n a b : Int} (h : a ≤ n ∧ n ≤ b) (w : World) : Calls Tryz.prog 105 #[.int .i64 n, .int .i64 a, .int .i64 b] w fun e w' => e = .returned (.bool true) ∧ w = w' := by
  have := within_any n a b w
  rwa [decide_eq_true h] at this
theorem within_no {n a b : Int} (h : ¬ (a ≤ n ∧ n ≤ b)) (w : World) : Calls Tryz.prog 105 #[.int .i64 n, .int .i64 a, .int .i64 b] w fun e w' => e = .returned (.bool false) ∧ w = w' := by
  have := within_any n a b w
  rwa [decide_eq_false h] at this
theorem mul_in {q m : Int} (h1 : 0 ≤ q) (h2 : q ≤ 24) (h3 : 5 ≤ m) (h4 : m ≤ 120) : 0 ≤ q * m ∧ q * m ≤ 2880 := by
  refine ⟨Int.mul_nonneg h1 (by omega), ?_⟩
  exact Int.le_trans (Int.mul_le_mul h2 h4 (by omega) (by omega)) (by omega)
/-- A call that returns a value and turns nothing that was there. -/
def Says (v : Value) (w : World) (e : Ending) (w' : World) : Prop := e = .returned v ∧ Below w.heap.size w w'
/-- Four numbers lie in a block. -/
structure Box4 (w : World) (B : Nat) (a b c d : Int) : Prop where
  c0 : w.cell? ⟨B, 0, none⟩ = some (.int .i64 a)
  c1 : w.cell? ⟨B, 1, none⟩ = some (.int .i64 b)
  c2 : w.cell? ⟨B, 2, none⟩ = some (.int .i64 c)
  c3 : w.cell? ⟨B, 3, none⟩ = some (.int .i64 d)
  lt : B < w.heap.size
theorem Box4.next {w w' : World} {B N : Nat} {a b c d : Int} (h : Box4 w B a b c d) (k : Below N w w') (hN : B < N) : Box4 w' B a b c d := by
  have kc : ∀ o : Nat, w'.cell? ⟨B, o, none⟩ = w.cell? ⟨B, o, none⟩ := fun o => k.cell (p := ⟨B, o, none⟩) hN
  exact ⟨(kc 0).trans h.c0, (kc 1).trans h.c1, (kc 2).trans h.c2, (kc 3).trans h.c3, Nat.lt_of_lt_of_le h.lt k.size⟩
theorem Box4.new (w : World) (a b c d : Int) (t : TypeId) : Box4 (w.alloc (.cells #[.int .i64 a, .int .i64 b, .int .i64 c, .int .i64 d] t)) w.heap.size a b c d := by
  have e := heap_alloc_new w (.cells #[.int .i64 a, .int .i64 b, .int .i64 c, .int .i64 d] t)
  refine ⟨?_, ?_, ?_, ?_, by simp⟩
  all_goals (rw [Lib.cell_of_heap e]; rfl)
/-- One box, of a call that began in w0. -/
structure K1 (w0 : World) (a b c d : Int) (w : World) : Prop where
  x : Box4 w w0.heap.size a b c d
  b : Below w0.heap.size w0 w
theorem K1.next {w0 w w' : World} {a b c d : Int} (h : K1 w0 a b c d w) (k : Below w.heap.size w w') : K1 w0 a b c d w' := ⟨h.x.next k h.x.lt, h.b.trans (k.mono h.b.size)⟩
theorem K1.first (w : World) (a b c d : Int) (t : TypeId) : K1 w a b c d (w.alloc (.cells #[.int .i64 a, .int .i64 b, .int .i64 c, .int .i64 d] t)) := ⟨Box4.new w a b c d t, (Below.refl _ w).alloc (Nat.le_refl _) _⟩
/-- Two boxes. -/
structure K2 (w0 : World) (a b c d a' b' c' d' : Int) (w : World) : Prop where
  x : Box4 w w0.heap.size a b c d
  y : Box4 w (w0.heap.size + 1) a' b' c' d'
  b : Below w0.heap.size w0 w
section
variable {w0 w w' : World} {a b c d a' b' c' d' : Int}
theorem K2.next (h : K2 w0 a b c d a' b' c' d' w) (k : Below w.heap.size w w') : K2 w0 a b c d a' b' c' d' w' := ⟨h.x.next k h.x.lt, h.y.next k h.y.lt, h.b.trans (k.mono h.b.size)⟩
theorem K2.drew (h : K2 w0 a b c d a' b' c' d' w) : K2 w0 a b c d a' b' c' d' w.drew := h.next (Below.refl _ w).drew
end
theorem K2.first (w : World) (a b c d a' b' c' d' : Int) (t t' : TypeId) : K2 w a b c d a' b' c' d' ((w.alloc (.cells #[.int .i64 a, .int .i64 b, .int .i64 c, .int .i64 d] t)).alloc (.cells #[.int .i64 a', .int .i64 b', .int .i64 c', .int .i64 d'] t')) := by
  have h1 := K1.first w a b c d t
  have hs : (w.alloc (.cells #[.int .i64 a, .int .i64 b, .int .i64 c, .int .i64 d] t)).heap.size = w.heap.size + 1 := by simp
  generalize w.alloc (.cells #[.int .i64 a, .int .i64 b, .int .i64 c, .int .i64 d] t) = w1 at h1 hs ⊢
  have h2 := Box4.new w1 a' b' c' d' t'
  have k : Below w1.heap.size w1 (w1.alloc (.cells #[.int .i64 a', .int .i64 b', .int .i64 c', .int .i64 d'] t')) := (Below.refl _ w1).alloc (Nat.le_refl _) _
  rw [hs] at h2
  exact ⟨h1.x.next k h1.x.lt, h2, h1.b.trans (k.mono h1.b.size)⟩

set_option maxHeartbeats 1000000 in
theorem minuteOf_any (d s b m q : Int) (h1 : 0 ≤ q) (h2 : q ≤ 24) (h3 : 5 ≤ m) (h4 : m ≤ 120) (h5 : 0 ≤ b) (h6 : b ≤ 1439) (w : World) :
    Calls Tryz.prog 106 #[.agg #[.int .i64 d, .int .i64 s, .int .i64 b, .int .i64 m], .int .i64 q] w (Says (.int .i64 (b + q * m)) w) := by
  have hm := mul_in h1 h2 h3 h4
  have e1 : IntKind.i64.wrap (q * m) = q * m := IntWalk.i64_in _ (by omega)
  have e2 : IntKind.i64.wrap (b + q * m) = b + q * m := IntWalk.i64_in _ (by omega)
  have HK := hid (K1.first w d s b m 24)
  clear hm h1 h2 h3 h4 h5 h6
  unfold Says
  go_enter Tryz.func106, Tryz.ntmps106
  go_wp2
  go_ret
  exact ⟨rfl, HK.out.b⟩
set_option maxHeartbeats 1000000 in
theorem endOf_any (k y t l : Int) (h1 : 0 ≤ t) (h2 : t ≤ 24) (h3 : 0 ≤ l) (h4 : l ≤ 24) (w : World) :
    Calls Tryz.prog 148 #[.agg #[.int .i64 k, .int .i64 y, .int .i64 t, .int .i64 l]] w (Says (.int .i64 (t + l)) w) := by
  have HK := hid (K1.first w k y t l 66)
  unfold Says
  go_enter Tryz.func148, Tryz.ntmps148
  go_wp2
  go_ret
  exact ⟨rfl, HK.out.b⟩
theorem grid_no {d s b m : Int} (h : ¬ GridP d s b m) : gridB d s b m = false := decide_eq_false h
theorem grid_yes {d s b m : Int} (h : GridP d s b m) : gridB d s b m = true := decide_eq_true h

set_option maxHeartbeats 4000000 in
theorem isGrid_any (d s b m : Int) (w : World) : Calls Tryz.prog 74 #[.agg #[.int .i64 d, .int .i64 s, .int .i64 b, .int .i64 m]] w (Says (.bool (gridB d s b m)) w) := by
  by_cases hd : 1 ≤ d ∧ d ≤ 7
  · have c10 := fun w => within_yes hd w
    by_cases hs : 1 ≤ s ∧ s ≤ 24
    · have c11 := fun w => within_yes hs w
      by_cases hb : 0 ≤ b ∧ b ≤ 1439
      · have c12 := fun w => within_yes hb w
        by_cases hm : 5 ≤ m ∧ m ≤ 120
        · have c13 := fun w => within_yes hm w
          have cm := fun w => minuteOf_any d s b m s (by omega) hs.2 hm.1 hm.2 hb.1 hb.2 w
          by_cases h5 : b + s * m ≤ 1440
          · rw [grid_yes ⟨hd, hs, hb, hm, h5⟩]
            have h5d : decide (b + s * m ≤ 1440) = true := decide_eq_true h5
            unfold Says at cm ⊢
            generalize b + s * m = M at cm h5 h5d
            clear hd hs hb hm
            have hk := K1.first w d s b m 24
            go_enter Tryz.func74, Tryz.ntmps74
            go_wp2_with fail
            refine (c10 _).mono ?_
            rintro e w1 ⟨rfl, rfl⟩
            go_wp2_with fail
            refine (c11 _).mono ?_
            rintro e w1 ⟨rfl, rfl⟩
            go_wp2_with fail
            refine (c12 _).mono ?_
            rintro e w1 ⟨rfl, rfl⟩
            go_wp2_with fail
            refine (c13 _).mono ?_
            rintro e w1 ⟨rfl, rfl⟩
            go_wp2_with fail
            refine (cm _).mono ?_
            rintro e w1 ⟨rfl, hb⟩
            have hk := hk.next hb
            clear hb
            go_wp2
            go_ret
            exact ⟨rfl, hk.b⟩
          · rw [grid_no (fun h => h5 h.2.2.2.2)]
            have h5d : decide (b + s * m ≤ 1440) = false := decide_eq_false h5
            unfold Says at cm ⊢
            generalize b + s * m = M at cm h5 h5d
            clear hd hs hb hm
            have hk := K1.first w d s b m 24
            go_enter Tryz.func74, Tryz.ntmps74
            go_wp2_with fail
            refine (c10 _).mono ?_
            rintro e w1 ⟨rfl, rfl⟩
            go_wp2_with fail
            refine (c11 _).mono ?_
            rintro e w1 ⟨rfl, rfl⟩
            go_wp2_with fail
            refine (c12 _).mono ?_
            rintro e w1 ⟨rfl, rfl⟩
            go_wp2_with fail
            refine (c13 _).mono ?_
            rintro e w1 ⟨rfl, rfl⟩
            go_wp2_with fail
            refine (cm _).mono ?_
            rintro e w1 ⟨rfl, hb⟩
            have hk := hk.next hb
            clear hb
            go_wp2
            go_ret
            exact ⟨rfl, hk.b⟩
        · have c13 := fun w => within_no hm w
          rw [grid_no (fun h => hm h.2.2.2.1)]
          unfold Says
          clear hd hs hb hm
          have hk := K1.first w d s b m 24
          go_enter Tryz.func74, Tryz.ntmps74
          go_wp2_with fail
          refine (c10 _).mono ?_
          rintro e w1 ⟨rfl, rfl⟩
          go_wp2_with fail
          refine (c11 _).mono ?_
          rintro e w1 ⟨rfl, rfl⟩
          go_wp2_with fail
          refine (c12 _).mono ?_
          rintro e w1 ⟨rfl, rfl⟩
          go_wp2_with fail
          refine (c13 _).mono ?_
          rintro e w1 ⟨rfl, rfl⟩
          go_wp2
          go_ret
          exact ⟨rfl, hk.b⟩
      · have c12 := fun w => within_no hb w
        rw [grid_no (fun h => hb h.2.2.1)]
        unfold Says
        clear hd hs hb
        have hk := K1.first w d s b m 24
        go_enter Tryz.func74, Tryz.ntmps74
        go_wp2_with fail
        refine (c10 _).mono ?_
        rintro e w1 ⟨rfl, rfl⟩
        go_wp2_with fail
        refine (c11 _).mono ?_
        rintro e w1 ⟨rfl, rfl⟩
        go_wp2_with fail
        refine (c12 _).mono ?_
        rintro e w1 ⟨rfl, rfl⟩
        go_wp2
        go_ret
        exact ⟨rfl, hk.b⟩
    · have c11 := fun w => within_no hs w
      rw [grid_no (fun h => hs h.2.1)]
      unfold Says
      clear hd hs
      have hk := K1.first w d s b m 24
      go_enter Tryz.func74, Tryz.ntmps74
      go_wp2_with fail
      refine (c10 _).mono ?_
      rintro e w1 ⟨rfl, rfl⟩
      go_wp2_with fail
      refine (c11 _).mono ?_
      rintro e w1 ⟨rfl, rfl⟩
      go_wp2
      go_ret
      exact ⟨rfl, hk.b⟩
  · have c10 := fun w => within_no hd w
    rw [grid_no (fun h => hd h.1)]
    unfold Says
    clear hd
    have hk := K1.first w d s b m 24
    go_enter Tryz.func74, Tryz.ntmps74
    go_wp2_with fail
    refine (c10 _).mono ?_
    rintro e w1 ⟨rfl, rfl⟩
    go_wp2
    go_ret
    exact ⟨rfl, hk.b⟩
theorem frame_no {d s b m n : Int} (h : ¬ (gridB d s b m = true ∧ 1 ≤ n ∧ n ≤ 20)) : frameB d s b m n = false := decide_eq_false h
set_option maxHeartbeats 2000000 in
theorem isFrame_any (d s b m n : Int) (w : World) : Calls Tryz.prog 181 #[.agg #[.int .i64 d, .int .i64 s, .int .i64 b, .int .i64 m], .int .i64 n] w (Says (.bool (frameB d s b m n)) w) := by
  have cG := fun w => isGrid_any d s b m w
  unfold Says at cG ⊢
  cases hg : gridB d s b m with
  | true =>
    rw [hg] at cG
    by_cases h1 : 1 ≤ n ∧ n ≤ 20
    · have c1 := fun w => within_yes h1 w
      rw [show frameB d s b m n = true from decide_eq_true ⟨hg, h1⟩]
      clear hg h1
      have hk := K1.first w d s b m 24
      go_enter Tryz.func181, Tryz.ntmps181
      go_wp2_with fail
      refine (cG _).mono ?_
      rintro e w1 ⟨rfl, hb⟩
      have hk := hk.next hb
      clear hb
      go_wp2_with fail
      refine (c1 _).mono ?_
      rintro e w1 ⟨rfl, rfl⟩
      go_wp2
      go_ret
      exact ⟨rfl, hk.b⟩
    · have c1 := fun w => within_no h1 w
      rw [frame_no (fun h => h1 h.2)]
      clear hg h1
      have hk := K1.first w d s b m 24
      go_enter Tryz.func181, Tryz.ntmps181
      go_wp2_with fail
      refine (cG _).mono ?_
      rintro e w1 ⟨rfl, hb⟩
      have hk := hk.next hb
      clear hb
      go_wp2_with fail
      refine (c1 _).mono ?_
      rintro e w1 ⟨rfl, rfl⟩
      go_wp2
      go_ret
      exact ⟨rfl, hk.b⟩
  | false =>
    rw [hg] at cG
    rw [frame_no (fun h => by rw [hg] at h; exact absurd h.1 (by simp))]
    clear hg
    have hk := K1.first w d s b m 24
    go_enter Tryz.func181, Tryz.ntmps181
    go_wp2_with fail
    refine (cG _).mono ?_
    rintro e w1 ⟨rfl, hb⟩
    have hk := hk.next hb
    clear hb
    go_wp2
    go_ret
    exact ⟨rfl, hk.b⟩
set_option maxHeartbeats 2000000 in
theorem gvalid_any (d s b m : Int) (w : World) : Calls Tryz.prog 40 #[.agg #[.int .i64 d, .int .i64 s, .int .i64 b, .int .i64 m]] w (Says (.int .i64 (if gridB d s b m = true then 0 else 3)) w) := by
  have cG := fun w => isGrid_any d s b m w
  unfold Says at cG ⊢
  generalize gridB d s b m = B at cG ⊢
  cases B with
  | true =>
    rw [if_pos rfl]
    have hk := K1.first w d s b m 24
    go_enter Tryz.func40, Tryz.ntmps40
    go_wp2_with fail
    refine (cG _).mono ?_
    rintro e w1 ⟨rfl, hb⟩
    have hk := hk.next hb
    clear hb
    go_wp2
    go_ret
    exact ⟨rfl, hk.b⟩
  | false =>
    rw [if_neg (by simp)]
    have hk := K1.first w d s b m 24
    go_enter Tryz.func40, Tryz.ntmps40
    go_wp2_with fail
    refine (cG _).mono ?_
    rintro e w1 ⟨rfl, hb⟩
    have hk := hk.next hb
    clear hb
    go_wp2
    go_ret
    exact ⟨rfl, hk.b⟩
theorem sound_no {k y t l : Int} (h : ¬ SoundP k y t l) : soundB k y t l = false := decide_eq_false h
theorem sound_yes {k y t l : Int} (h : SoundP k y t l) : soundB k y t l = true := decide_eq_true h
set_option maxHeartbeats 4000000 in
theorem sound_any (k y t l : Int) (ht : t ≤ 9223372036854775807) (w : World) : Calls Tryz.prog 182 #[.agg #[.int .i64 k, .int .i64 y, .int .i64 t, .int .i64 l]] w (Says (.bool (soundB k y t l)) w) := by
  have cV := fun w => valid_any k 20 w
  unfold Says
  cases hv : validM k 20 with
  | false =>
    rw [hv] at cV
    rw [sound_no (fun h => by have := h.1; rw [hv] at this; simp at this)]
    clear hv
    have hk := K1.first w k y t l 66
    go_enter Tryz.func182, Tryz.ntmps182
    go_wp2_with fail
    refine (cV _).mono ?_
    rintro e w1 ⟨rfl, q, hq⟩
    have hk := hk.next (show Below _ _ w1 by rw [hq]; exact below_drewN (Below.refl _ _) q)
    clear hq
    obtain ⟨⟨c0, c1, c2, c3, lt0⟩, lb⟩ := id hk
    go_wp2
    go_ret
    exact ⟨rfl, hk.b⟩
  | true =>
    rw [hv] at cV
    by_cases hy : 0 ≤ y ∧ y ≤ 6
    · have c11 := fun w => within_yes hy w
      by_cases h0 : 0 ≤ t
      · have e1 : IntKind.i64.wrap (24 - t) = 24 - t := IntWalk.i64_in _ (by omega)
        by_cases hl : 1 ≤ l ∧ l ≤ 24 - t
        · have c12 := fun w => within_yes hl w
          rw [sound_yes ⟨hv, hy, h0, hl.1, by omega⟩]
          clear hv hy hl
          have hk := K1.first w k y t l 66
          go_enter Tryz.func182, Tryz.ntmps182
          go_wp2_with fail
          refine (cV _).mono ?_
          rintro e w1 ⟨rfl, q, hq⟩
          have hk := hk.next (show Below _ _ w1 by rw [hq]; exact below_drewN (Below.refl _ _) q)
          clear hq
          obtain ⟨⟨c0, c1, c2, c3, lt0⟩, lb⟩ := id hk
          go_wp2_with fail
          refine (c11 _).mono ?_
          rintro e w1 ⟨rfl, rfl⟩
          go_wp2_with fail
          refine (c12 _).mono ?_
          rintro e w1 ⟨rfl, rfl⟩
          go_wp2
          go_ret
          exact ⟨rfl, hk.b⟩
        · have c12 := fun w => within_no hl w
          rw [sound_no (fun h => hl ⟨h.2.2.2.1, by have := h.2.2.2.2; omega⟩)]
          clear hv hy hl
          have hk := K1.first w k y t l 66
          go_enter Tryz.func182, Tryz.ntmps182
          go_wp2_with fail
          refine (cV _).mono ?_
          rintro e w1 ⟨rfl, q, hq⟩
          have hk := hk.next (show Below _ _ w1 by rw [hq]; exact below_drewN (Below.refl _ _) q)
          clear hq
          obtain ⟨⟨c0, c1, c2, c3, lt0⟩, lb⟩ := id hk
          go_wp2_with fail
          refine (c11 _).mono ?_
          rintro e w1 ⟨rfl, rfl⟩
          go_wp2_with fail
          refine (c12 _).mono ?_
          rintro e w1 ⟨rfl, rfl⟩
          go_wp2
          go_ret
          exact ⟨rfl, hk.b⟩
      · rw [sound_no (fun h => h0 h.2.2.1)]
        clear hv hy
        have hk := K1.first w k y t l 66
        go_enter Tryz.func182, Tryz.ntmps182
        go_wp2_with fail
        refine (cV _).mono ?_
        rintro e w1 ⟨rfl, q, hq⟩
        have hk := hk.next (show Below _ _ w1 by rw [hq]; exact below_drewN (Below.refl _ _) q)
        clear hq
        obtain ⟨⟨c0, c1, c2, c3, lt0⟩, lb⟩ := id hk
        go_wp2_with fail
        refine (c11 _).mono ?_
        rintro e w1 ⟨rfl, rfl⟩
        go_wp2
        go_ret
        exact ⟨rfl, hk.b⟩
    · have c11 := fun w => within_no hy w
      rw [sound_no (fun h => hy h.2.1)]
      clear hv hy
      have hk := K1.first w k y t l 66
      go_enter Tryz.func182, Tryz.ntmps182
      go_wp2_with fail
      refine (cV _).mono ?_
      rintro e w1 ⟨rfl, q, hq⟩
      have hk := hk.next (show Below _ _ w1 by rw [hq]; exact below_drewN (Below.refl _ _) q)
      clear hq
      obtain ⟨⟨c0, c1, c2, c3, lt0⟩, lb⟩ := id hk
      go_wp2_with fail
      refine (c11 _).mono ?_
      rintro e w1 ⟨rfl, rfl⟩
      go_wp2
      go_ret
      exact ⟨rfl, hk.b⟩
end Go.Proofs.YtigdcgklpapfbaaGreatDoor
