/-
  Ascending codes: areFeatures of the program; Rises and Codes of the specification. Conditions: the strings lie in memory.
  Starts and sets of weeks of a class: areStarts, arePatterns of coursefile; Ascend of codelists. Conditions: the lists lie in memory.
  The texts of the lists of a class: writePatterns, writeStarts of coursefile, Write of codelists. Conditions: the lists lie in memory; the variables hold what their text lays.
  The text of the starts of a class: writeStarts of coursefile. Conditions: the starts lie in memory; the variables hold what their text lays.
-/
import Derived.Test.YtigdcgklpapfbaaGreatDoorVR20
import Derived.Lib.AppendIntMem
import Derived.Lib.QuietBelow
set_option linter.unusedVariables false
namespace Go.Proofs.YtigdcgklpapfbaaGreatDoor
open Go Go.Proofs Go.RowKit Go.Lib

theorem le_bits (X Y : ByteArray) : (Op.bytesLess X.toList Y.toList || X.toList == Y.toList) = decide (¬ lst Y < lst X) := by
  have e1 : X.toList = lst X := Lib.toList_data X
  have e2 : Y.toList = lst Y := Lib.toList_data Y
  rw [e1, e2, bytesLess_eq]
  generalize lst X = x
  generalize lst Y = y
  rw [Bool.eq_iff_iff, Bool.or_eq_true, decide_eq_true_eq, decide_eq_true_eq, beq_iff_eq]
  exact (List.le_iff_lt_or_eq (l₁ := x) (l₂ := y)).symm
theorem strs_cell {w : World} {P : Nat → Prop} {A : Option Addr} {l : List Str} (h : S3.StrsIn w P A l) {k : Nat} (hk : k < l.length) : ∃ b off, A = some ⟨b, off, none⟩ ∧ P b ∧ ∀ j (hj : j < l.length), w.cell? ⟨b, off + j, none⟩ = some (.string (ba l[j])) := by
  obtain ⟨b, off, hA, hP, _⟩ := h.at_ hk
  refine ⟨b, off, hA, hP, fun j hj => ?_⟩
  obtain ⟨b', off', e, _, hc⟩ := h.at_ hj
  rw [hA] at e
  injection e with e
  injection e with e1 e2 _
  subst e1 e2
  exact hc

set_option maxHeartbeats 4000000 in
set_option maxRecDepth 100000 in
theorem areF_any (A : Option Addr) (l : List Str) (c : Nat) (Pp : Nat → Prop) (w : World) (h : S3.StrsIn w Pp A l) (hlc : l.length ≤ c) (hc : c ≤ 9223372036854775807) :
    Calls Tryz.prog 77 #[.slice A l.length c] w fun e w' => e = .returned (.bool (featB l)) ∧ w = w' := by
  obtain ⟨R, hR⟩ : ∃ R, featB l = R := ⟨_, rfl⟩
  rw [hR]
  have H := hid h
  have HR := hid hR
  clear hR h
  go_enter Tryz.func77, Tryz.ntmps77
  go_wp2
  go_loop [3, 4, 7] (fun _ _ iv => ∃ i : Nat, iv = .int .i64 (i : Int) ∧ i ≤ l.length ∧ Hid (featTo l i)) (fun _ _ iv => l.length - (RowKit.intOf iv).toNat)
  case atStart => exact ⟨0, rfl, Nat.zero_le _, hid ⟨fun j _ h => absurd h (Nat.not_lt_zero _), fun j _ h => absurd h (Nat.not_lt_zero _)⟩⟩
  case round =>
    obtain ⟨i, rfl, hi, hE⟩ := hrel
    by_cases hlt : i < l.length
    · have hltz : (i : Int) < (l.length : Int) := by omega
      obtain ⟨b, off, rfl, _, hcs⟩ := strs_cell H.out hlt
      have hc1 := hcs i hlt
      have cV := S3.valid_any (ba l[i])
      have HS := hid (featTo_step l i hlt hE.out)
      have HB := hid (featB_bad_code l i hlt)
      obtain ⟨x, hx⟩ : ∃ x, l[i] = x := ⟨_, rfl⟩
      have HXX := hid hx
      rw [hx] at hc1 cV HB
      rw [show (ba x).data.toList = x from rfl] at cV
      obtain ⟨X, hX⟩ : ∃ X, ba x = X := ⟨_, rfl⟩
      rw [hX] at hc1 cV
      have hXl : lst X = x := by rw [← hX]; rfl
      have HXL := hid hXl
      clear hx hX hXl
      cases hv : S3.validC x with
      | false =>
        rw [hv] at cV
        have hn : R = false := by rw [← HR.out]; exact HB.out hv
        subst hn
        clear hv HS HB hcs
        go_wp2_with fail
        refine (cV _).mono ?_
        rintro e w' ⟨rfl, rfl⟩
        go_wp2
        go_ret
        exact ⟨rfl, rfl⟩
      | true =>
        rw [hv] at cV
        by_cases h0 : i = 0
        · have h0z : ¬ (0 : Int) < (i : Int) := by omega
          have h0d : decide ((0 : Int) < (i : Int)) = false := decide_eq_false h0z
          have hst := hid (HS.out (by rw [HXX.out]; exact hv) (fun k hk => by omega))
          clear hv HS HB hcs h0
          go_wp2_with fail
          refine (cV _).mono ?_
          rintro e w' ⟨rfl, rfl⟩
          go_wp2
          go_round
          case rel => exact ⟨i + 1, by go_num, by omega, hst⟩
          case measure => simp [RowKit.intOf]; omega
        · obtain ⟨k, hk⟩ : ∃ k, k + 1 = i := ⟨i - 1, by omega⟩
          have h0z : (0 : Int) < (i : Int) := by omega
          have h0d : decide ((0 : Int) < (i : Int)) = true := decide_eq_true h0z
          have hkl : k < l.length := by omega
          have hc2 := hcs k hkl
          have q1 : IntKind.i64.wrap ((i : Int) - 1) = (k : Int) := by rw [show (i : Int) - 1 = (k : Int) by omega]; exact IntWalk.i64_in _ (by omega)
          have q2 : (i : Int) - 1 = (k : Int) := by omega
          have hkz : (k : Int) < (l.length : Int) := by omega
          obtain ⟨y, hy⟩ : ∃ y, l[k] = y := ⟨_, rfl⟩
          have HYY := hid hy
          rw [hy] at hc2
          obtain ⟨Y, hY⟩ : ∃ Y, ba y = Y := ⟨_, rfl⟩
          rw [hY] at hc2
          have hYl : lst Y = y := by rw [← hY]; rfl
          have hcmp := le_bits X Y
          rw [HXL.out, hYl] at hcmp
          clear hy hY hYl
          by_cases hlt2 : y < x
          · rw [decide_eq_false (fun h => h hlt2)] at hcmp
            have hst := hid (HS.out (by rw [HXX.out]; exact hv) (fun j hj => by
              obtain rfl : j = k := by omega
              rw [HYY.out, HXX.out]
              exact hlt2))
            have hc3 : Op.bytesLess X.toList Y.toList = false := by
              cases hb : Op.bytesLess X.toList Y.toList with
              | false => rfl
              | true => rw [hb] at hcmp; simp at hcmp
            have hc4 : (X.toList == Y.toList) = false := by rw [hc3, Bool.false_or] at hcmp; exact hcmp
            clear hv HS HB hcs h0 hcmp hlt2 hk
            go_wp2_with fail
            refine (cV _).mono ?_
            rintro e w' ⟨rfl, rfl⟩
            go_wp2
            go_round
            case rel => exact ⟨i + 1, by go_num, by omega, hst⟩
            case measure => simp [RowKit.intOf]; omega
          · rw [decide_eq_true hlt2] at hcmp
            have hn : R = false := by
              rw [← HR.out]
              refine featB_bad_order l k (by omega) ?_
              rw [HYY.out]
              have : l[k + 1]'(by omega) = x := by
                rw [← HXX.out]
                congr 1
              rw [this]
              exact hlt2
            subst hn
            clear hv HS HB hcs h0 hlt2 hk
            rcases Bool.or_eq_true _ _ ▸ hcmp with h5 | h5
            · go_wp2_with fail
              refine (cV _).mono ?_
              rintro e w' ⟨rfl, rfl⟩
              go_wp2
              go_ret
              exact ⟨rfl, rfl⟩
            · go_wp2_with fail
              refine (cV _).mono ?_
              rintro e w' ⟨rfl, rfl⟩
              go_wp2
              go_ret
              exact ⟨rfl, rfl⟩
    · have hltz : ¬ (i : Int) < (l.length : Int) := by omega
      have hn : R = true := by
        rw [← HR.out]
        obtain rfl : i = l.length := by omega
        exact featTo_all l hE.out
      subst hn
      go_wp2
      go_ret
      exact ⟨rfl, rfl⟩
end Go.Proofs.YtigdcgklpapfbaaGreatDoor

set_option linter.unusedVariables false
namespace Go.Proofs.YtigdcgklpapfbaaGreatDoor.S10
open Go Go.Proofs Go.RowKit Go.Lib Go.Proofs.YtigdcgklpapfbaaGreatDoor
open Go.Sort

/-- What lies while areStarts runs: the grid. -/
structure KA (w0 : World) (d s b m : Int) (W : World) : Prop where
  g : Box4 W w0.heap.size d s b m
  b : Below w0.heap.size w0 W
theorem KA.next {w0 W W' : World} {d s b m : Int} (h : KA w0 d s b m W) (k : Below W.heap.size W W') : KA w0 d s b m W' := ⟨h.g.next k h.g.lt, h.b.trans (k.mono h.b.size)⟩
theorem KA.first (w : World) (d s b m : Int) : KA w d s b m (w.alloc (.cells #[.int .i64 d, .int .i64 s, .int .i64 b, .int .i64 m] 24)) :=
  ⟨Box4.new w d s b m _, (Below.refl w.heap.size w).alloc (Nat.le_refl _) _⟩
structure SJ (w0 : World) (K : Nat) (d s b m y t : Int) (W : World) : Prop where
  a : KA w0 d s b m W
  r : BoxS W K (.int .i64 y) (.int .i64 t)
theorem SJ.next {w0 W W' : World} {K : Nat} {d s b m y t : Int} (h : SJ w0 K d s b m y t W) (k : Below W.heap.size W W') : SJ w0 K d s b m y t W' := ⟨h.a.next k, h.r.next k⟩
theorem SJ.all {w0 W : World} {K : Nat} {d s b m y t : Int} (h : SJ w0 K d s b m y t W) :
    W.cell? ⟨w0.heap.size, 0, none⟩ = some (.int .i64 d) ∧ W.cell? ⟨w0.heap.size, 1, none⟩ = some (.int .i64 s) ∧ W.cell? ⟨w0.heap.size, 2, none⟩ = some (.int .i64 b) ∧ W.cell? ⟨w0.heap.size, 3, none⟩ = some (.int .i64 m) ∧
    W.cell? ⟨K, 0, none⟩ = some (.int .i64 y) ∧ W.cell? ⟨K, 1, none⟩ = some (.int .i64 t) := ⟨h.a.g.c0, h.a.g.c1, h.a.g.c2, h.a.g.c3, h.r.cells.1, h.r.cells.2⟩
/-- A start of the list in question, its own box, the grid. -/
structure SK (w0 : World) (K lb lo : Nat) (d s b m y t y' t' : Int) (W : World) : Prop where
  a : KA w0 d s b m W
  r : BoxS W K (.int .i64 y) (.int .i64 t)
  p0 : W.cell? ⟨lb, lo, none⟩ = some (.int .i64 y')
  p1 : W.cell? ⟨lb, lo + 1, none⟩ = some (.int .i64 t')
  l : lb < W.heap.size
theorem SK.next {w0 W W' : World} {K lb lo : Nat} {d s b m y t y' t' : Int} (h : SK w0 K lb lo d s b m y t y' t' W) (k : Below W.heap.size W W') : SK w0 K lb lo d s b m y t y' t' W' :=
  ⟨h.a.next k, h.r.next k, (k.cell (p := ⟨lb, lo, none⟩) h.l).trans h.p0, (k.cell (p := ⟨lb, lo + 1, none⟩) h.l).trans h.p1, Nat.lt_of_lt_of_le h.l k.size⟩
theorem SK.all {w0 W : World} {K lb lo : Nat} {d s b m y t y' t' : Int} (h : SK w0 K lb lo d s b m y t y' t' W) :
    W.cell? ⟨w0.heap.size, 0, none⟩ = some (.int .i64 d) ∧ W.cell? ⟨w0.heap.size, 1, none⟩ = some (.int .i64 s) ∧ W.cell? ⟨w0.heap.size, 2, none⟩ = some (.int .i64 b) ∧ W.cell? ⟨w0.heap.size, 3, none⟩ = some (.int .i64 m) ∧
    W.cell? ⟨K, 0, none⟩ = some (.int .i64 y) ∧ W.cell? ⟨K, 1, none⟩ = some (.int .i64 t) ∧ W.cell? ⟨lb, lo, none⟩ = some (.int .i64 y') ∧ W.cell? ⟨lb, lo + 1, none⟩ = some (.int .i64 t') :=
  ⟨h.a.g.c0, h.a.g.c1, h.a.g.c2, h.a.g.c3, h.r.cells.1, h.r.cells.2, h.p0, h.p1⟩
theorem belowGrow {w : World} (q : Nat) (os : Array Obj) : Below w.heap.size w (grow (w.drewN q) os) := below_grow _ w (Nat.le_refl _) q os

set_option maxHeartbeats 8000000 in
set_option maxRecDepth 100000 in
theorem areStarts_any (A : Option Addr) (l : List StartD) (c : Nat) (len d s b m : Int) (w : World) (h : StartsIn w (fun k => k < w.heap.size) A l) (hlc : l.length ≤ c) (hc : c ≤ 9223372036854775807) (hin : ∀ t ∈ l, t.2 ≤ 9223372036854775807) :
    Calls Tryz.prog 78 #[.slice A l.length c, .int .i64 len, .agg #[.int .i64 d, .int .i64 s, .int .i64 b, .int .i64 m]] w (Says (.bool (startsB d s b m len l)) w) := by
  obtain ⟨R, hR⟩ : ∃ R, startsB d s b m len l = R := ⟨_, rfl⟩
  rw [hR]
  unfold Says
  have hk0 := KA.first w d s b m
  have HR : Hid (startsGo (fitS d s b m len) (prevAt l 0) (l.drop 0) = R) := hid hR
  have HH := hid h
  have HIN := hid hin
  have HK0 := hid hk0
  clear h hR hk0 hin
  go_enter Tryz.func78, Tryz.ntmps78
  go_wp2
  generalize w.alloc (.cells #[.int .i64 d, .int .i64 s, .int .i64 b, .int .i64 m] 24) = w1 at HK0 ⊢
  go_loopw [6, 7, 8, 11] (fun _ _ _ iv wr => ∃ i : Nat, iv = .int .i64 (i : Int) ∧ i ≤ l.length ∧ Hid (startsGo (fitS d s b m len) (prevAt l i) (l.drop i) = R) ∧ Hid (KA w d s b m wr)) (fun _ _ _ iv _ => l.length - (RowKit.intOf iv).toNat)
  case atStart => exact ⟨0, rfl, Nat.zero_le _, HR, HK0⟩
  case round =>
    obtain ⟨i, rfl, hi, hE, hK⟩ := hrel
    by_cases hlt : i < l.length
    · have hltz : (i : Int) < (l.length : Int) := by omega
      have hl0 := (HH.out.below hK.out.b).start hlt
      obtain ⟨lb, lo, rfl, hlb, hc0, hc1⟩ := hl0
      have hlbw : lb < wr.heap.size := Nat.lt_of_lt_of_le hlb hK.out.b.size
      obtain ⟨⟨y, t⟩, hy⟩ : ∃ y, l[i] = y := ⟨_, rfl⟩
      have HY := hid hy
      have htb : t ≤ 9223372036854775807 := by have := HIN.out l[i] (List.getElem_mem hlt); rw [hy] at this; exact this
      rw [hy] at hc0 hc1
      dsimp only at hc0 hc1
      have cI := fun W => isStart_any y t len d s b m htb W
      obtain ⟨F, hF⟩ : ∃ F, decide (fitsM d s b m 1 1 y t len = 0) = F := ⟨_, rfl⟩
      rw [hF] at cI
      unfold Says at cI
      have HFF : Hid (fitS d s b m len l[i] = F) := hid (by rw [hy]; exact hF)
      have hS := BoxS.new wr (.int .i64 y) (.int .i64 t)
      have hb2 := (Below.refl wr.heap.size wr).alloc (Nat.le_refl _) (.cells #[.int .i64 y, .int .i64 t] 74)
      have hk2 := hK.out.next hb2
      have CI := hid cI
      clear cI hF hy htb
      cases F with
      | false =>
        have HT : Hid (R = false) := hid (by rw [← hE.out]; exact startsGo_bad _ l i hlt HFF.out)
        obtain ⟨g0, g1, g2, g3, _⟩ := id hk2.g
        obtain ⟨s0, s1⟩ := hS.cells
        have HK2 : Hid (SJ w wr.heap.size d s b m y t _) := hid ⟨hk2, hS⟩
        clear hS hb2 hk2 hlb hlbw
        go_wp2
        clear hc0 hc1
        generalize wr.alloc (.cells #[.int .i64 y, .int .i64 t] 74) = w2 at HK2 g0 g1 g2 g3 s0 s1 ⊢
        have k0 := cell_regrown g0
        have k1 := cell_regrown g1
        have k2 := cell_regrown g2
        have k3 := cell_regrown g3
        have m0 := cell_regrown s0
        have m1 := cell_regrown s1
        have cI' : ∀ d' os, Calls Tryz.prog 114 #[.agg #[.int .i64 y, .int .i64 t], .int .i64 len, .agg #[.int .i64 d, .int .i64 s, .int .i64 b, .int .i64 m]] (grow (redrawn w2 d') os) fun e w'' => e = .returned (.bool false) ∧ ∃ p : Regrown, w'' = grow (redrawn w2 p.d) p.os := fun d' os => Calls.regrown_of (CI.out _)
        clear g0 g1 g2 g3 s0 s1
        refine wp_region_quiet_below (by kernel_rfl) (by kernel_rfl) ?_
        repeat (go_big_quiet_step (exact cI' _ _))
        refine wpQuiet_nil ?_
        intro _ hw'
        obtain ⟨⟨dq, osq⟩, hw''⟩ := hw'
        subst hw''
        have HK3 := hid (HK2.out.a.next (below_regrown w2 dq osq))
        go_wp2
        go_ret
        exact ⟨by rw [HT.out]; rfl, HK3.out.b⟩
      | true =>
        obtain ⟨s0, s1⟩ := hS.cells
        have hq0 : (wr.alloc (.cells #[.int .i64 y, .int .i64 t] 74)).heap.size = wr.heap.size + 1 := by simp
        rcases Nat.eq_zero_or_pos i with h0 | h0
        · have hst : startsGo (fitS d s b m len) (prevAt l i) (l.drop i) = startsGo (fitS d s b m len) (prevAt l (i + 1)) (l.drop (i + 1)) := by
            subst h0
            exact startsGo_zero _ l hlt HFF.out
          rw [hE.out] at hst
          have h0z : ¬ (0 : Int) < (i : Int) := by omega
          have h0d : decide ((0 : Int) < (i : Int)) = false := decide_eq_false h0z
          have h0e : decide (0 < i) = false := decide_eq_false (by omega)
          obtain ⟨g0, g1, g2, g3, _⟩ := id hk2.g
          have HK2 : Hid (SJ w wr.heap.size d s b m y t _) := hid ⟨hk2, hS⟩
          have HST := hid hst
          clear hS hb2 hk2 hlb hlbw hst h0
          go_wp2
          clear hc0 hc1
          generalize wr.alloc (.cells #[.int .i64 y, .int .i64 t] 74) = w2 at HK2 g0 g1 g2 g3 s0 s1 ⊢
          have k0 := cell_regrown g0
          have k1 := cell_regrown g1
          have k2 := cell_regrown g2
          have k3 := cell_regrown g3
          have m0 := cell_regrown s0
          have m1 := cell_regrown s1
          have cI' : ∀ d' os, Calls Tryz.prog 114 #[.agg #[.int .i64 y, .int .i64 t], .int .i64 len, .agg #[.int .i64 d, .int .i64 s, .int .i64 b, .int .i64 m]] (grow (redrawn w2 d') os) fun e w'' => e = .returned (.bool true) ∧ ∃ p : Regrown, w'' = grow (redrawn w2 p.d) p.os := fun d' os => Calls.regrown_of (CI.out _)
          clear g0 g1 g2 g3 s0 s1
          refine wp_region_quiet_below (by kernel_rfl) (by kernel_rfl) ?_
          repeat (go_big_quiet_step (exact cI' _ _))
          refine wpQuiet_nil ?_
          intro _ hw'
          obtain ⟨⟨dq, osq⟩, hw''⟩ := hw'
          subst hw''
          have HK3 := hid (HK2.out.a.next (below_regrown w2 dq osq))
          go_wp2
          go_roundw
          case rel => exact ⟨i + 1, by go_num, by omega, hid HST.out.symm, HK3⟩
          case measure => simp [RowKit.intOf]; omega
        · obtain ⟨k, hk⟩ : ∃ k, k + 1 = i := ⟨i - 1, by omega⟩
          have hkl : k < l.length := by omega
          have hst : startsGo (fitS d s b m len) (prevAt l i) (l.drop i) = (ltB l[k] l[i] && startsGo (fitS d s b m len) (prevAt l (i + 1)) (l.drop (i + 1))) := by
            subst hk
            exact startsGo_succ _ l k hlt HFF.out
          rw [hE.out, HY.out] at hst
          obtain ⟨lb', lo', hA', _, hp0, hp1⟩ := (HH.out.below hK.out.b).start hkl
          injection hA' with hA'
          injection hA' with e1 e2 _
          subst e1 e2
          obtain ⟨⟨y', t'⟩, hy'⟩ : ∃ y, l[k] = y := ⟨_, rfl⟩
          rw [hy'] at hp0 hp1 hst
          dsimp only at hp0 hp1
          have cO := fun W => compareStarts_any (y', t') (y, t) W
          have hlB : ltOf cmpS (y', t') (y, t) = ltB (y', t') (y, t) := ltS_eq _ _
          obtain ⟨C, hC⟩ : ∃ C, cmpS (y', t') (y, t) = C := ⟨_, rfl⟩
          have hlC : ltB (y', t') (y, t) = decide (C < 0) := by rw [← hlB, ← hC]; rfl
          rw [hC] at cO
          dsimp only at cO
          have CO := hid cO
          have hsk : SK w wr.heap.size lb (lo + k * 2) d s b m y t y' t' (wr.alloc (.cells #[.int .i64 y, .int .i64 t] 74)) :=
            ⟨hk2, hS, Lib.cell?_alloc_some _ hp0, Lib.cell?_alloc_some _ hp1, by omega⟩
          have HSK := hid hsk
          have q1 : IntKind.i64.wrap ((i : Int) - 1) = (k : Int) := by rw [show (i : Int) - 1 = (k : Int) by omega]; exact IntWalk.i64_in _ (by omega)
          have hkz : (k : Int) < (l.length : Int) := by omega
          have h0z : (0 : Int) < (i : Int) := by omega
          have h0d : decide ((0 : Int) < (i : Int)) = true := decide_eq_true h0z
          have h0e : decide (0 < i) = true := decide_eq_true h0
          have hkc : k < c := by omega
          cases hD : decide (C < 0) with
          | false =>
            have hCd : decide ((0 : Int) ≤ C) = true := by rw [decide_eq_true_eq]; rw [decide_eq_false_iff_not] at hD; omega
            rw [hlC, hD] at hst
            have HT : Hid (R = false) := hid hst
            obtain ⟨S0, S1, S2, S3, S4, S5, S6, S7⟩ := hsk.all
            clear hS hb2 hk2 hlb hlbw hst hp0 hp1 hC hlC hlB cO hsk hD hy' HFF hk h0 hq0
            go_wp2
            clear hc0 hc1
            generalize wr.alloc (.cells #[.int .i64 y, .int .i64 t] 74) = w2 at HSK S0 S1 S2 S3 S4 S5 S6 S7 s0 s1 ⊢
            have hk' := HSK.out
            go_region_held3 (fun w' => w'.cell? ⟨w.heap.size, 0, none⟩ = some (.int .i64 d) ∧ w'.cell? ⟨w.heap.size, 1, none⟩ = some (.int .i64 s) ∧ w'.cell? ⟨w.heap.size, 2, none⟩ = some (.int .i64 b) ∧ w'.cell? ⟨w.heap.size, 3, none⟩ = some (.int .i64 m) ∧
                w'.cell? ⟨wr.heap.size, 0, none⟩ = some (.int .i64 y) ∧ w'.cell? ⟨wr.heap.size, 1, none⟩ = some (.int .i64 t) ∧ w'.cell? ⟨lb, lo + k * 2, none⟩ = some (.int .i64 y') ∧ w'.cell? ⟨lb, lo + k * 2 + 1, none⟩ = some (.int .i64 t'))
              (first | with_reducible exact hk'.all | exact (hk'.next (Below.refl _ _).drew).all)
              (first
                | (go_at_call 114; (with_reducible refine (CI.out _).mono ?_); rintro e wq ⟨rfl, hbq⟩; have hk' := (hk'.next (Below.refl _ _).drew).next hbq)
                | (go_at_call 115; (with_reducible refine (CO.out _).mono ?_); rintro e wq ⟨rfl, qq, oo, rfl⟩; have hk' := hk'.next (belowGrow qq oo)))
            all_goals
              go_wp2
              go_ret
              exact ⟨by rw [HT.out]; rfl, hk'.a.b⟩
          | true =>
            have hCd : decide ((0 : Int) ≤ C) = false := by rw [decide_eq_false_iff_not]; rw [decide_eq_true_eq] at hD; omega
            rw [hlC, hD, Bool.true_and] at hst
            have HT := hid hst
            obtain ⟨S0, S1, S2, S3, S4, S5, S6, S7⟩ := hsk.all
            clear hS hb2 hk2 hlb hlbw hst hp0 hp1 hC hlC hlB cO hsk hD hy' HFF hk h0 hq0
            go_wp2
            clear hc0 hc1
            generalize wr.alloc (.cells #[.int .i64 y, .int .i64 t] 74) = w2 at HSK S0 S1 S2 S3 S4 S5 S6 S7 s0 s1 ⊢
            have hk' := HSK.out
            go_region_held3 (fun w' => w'.cell? ⟨w.heap.size, 0, none⟩ = some (.int .i64 d) ∧ w'.cell? ⟨w.heap.size, 1, none⟩ = some (.int .i64 s) ∧ w'.cell? ⟨w.heap.size, 2, none⟩ = some (.int .i64 b) ∧ w'.cell? ⟨w.heap.size, 3, none⟩ = some (.int .i64 m) ∧
                w'.cell? ⟨wr.heap.size, 0, none⟩ = some (.int .i64 y) ∧ w'.cell? ⟨wr.heap.size, 1, none⟩ = some (.int .i64 t) ∧ w'.cell? ⟨lb, lo + k * 2, none⟩ = some (.int .i64 y') ∧ w'.cell? ⟨lb, lo + k * 2 + 1, none⟩ = some (.int .i64 t'))
              (first | with_reducible exact hk'.all | exact (hk'.next (Below.refl _ _).drew).all)
              (first
                | (go_at_call 114; (with_reducible refine (CI.out _).mono ?_); rintro e wq ⟨rfl, hbq⟩; have hk' := (hk'.next (Below.refl _ _).drew).next hbq)
                | (go_at_call 115; (with_reducible refine (CO.out _).mono ?_); rintro e wq ⟨rfl, qq, oo, rfl⟩; have hk' := hk'.next (belowGrow qq oo)))
            all_goals
              go_wp2
              go_roundw
              case rel => exact ⟨i + 1, by go_num, by omega, hid HT.out.symm, hid hk'.a⟩
              case measure => simp [RowKit.intOf]; omega
    · have hltz : ¬ (i : Int) < (l.length : Int) := by omega
      have HF : Hid (R = true) := hid (by
        have h := hE.out
        rw [List.drop_of_length_le (by omega)] at h
        rw [← h]
        rfl)
      go_wp2
      go_ret
      exact ⟨by rw [HF.out]; rfl, hK.out.b⟩
end Go.Proofs.YtigdcgklpapfbaaGreatDoor.S10

set_option linter.unusedVariables false
namespace Go.Proofs.YtigdcgklpapfbaaGreatDoor.S10
open Go Go.Proofs Go.RowKit Go.Lib Go.Proofs.YtigdcgklpapfbaaGreatDoor

def patS (n p : Int) : Str := (formM p n).1
def patsS (n : Int) (l : List Int) : Str := Lib.join (l.map (patS n)) [47]
def startS (d s b m : Int) (t : StartD) : Str := timeS d s b m 1 (1, t.1, t.2, 1)
def startsS (d s b m : Int) (l : List StartD) : Str := S3.semi (l.map (startS d s b m))
def featsS (l : List Str) : Str := if S3.checkM l = 0 then S3.joinM l else []
theorem patS_len (n p : Int) : (patS n p).length ≤ 300 := by
  unfold patS
  cases hv : validM p n with
  | false => rw [show formM p n = ([], 1) by unfold formM; rw [if_neg (by rw [hv]; simp)]]; simp
  | true =>
    obtain ⟨s, k, rfl, rfl, _, _, _, _⟩ := valid_nat hv
    rw [formM_yes hv]
    have := form_lenM (s := s) (n := k)
    show (formN s k).length ≤ 300
    omega
theorem joinTail_len (z : UInt8) : ∀ l : List Str, (∀ p ∈ l, p.length ≤ 300) → (Lib.joinTail [z] l).length ≤ 301 * l.length
  | [], _ => by simp [Lib.joinTail]
  | p :: r, h => by
    have ih := joinTail_len z r (fun q hq => h q (.tail _ hq))
    have hp := h p (.head _)
    have e : Lib.joinTail [z] (p :: r) = z :: p ++ Lib.joinTail [z] r := by simp [Lib.joinTail]
    rw [e]
    simp only [List.length_append, List.length_cons]
    omega
theorem joinZ_len (z : UInt8) (l : List Str) (h : ∀ p ∈ l, p.length ≤ 300) : (Lib.join l [z]).length ≤ 301 * l.length := by
  cases l with
  | nil => simp [Lib.join_nil]
  | cons p r =>
    rw [Lib.join_cons]
    have h1 := joinTail_len z r (fun q hq => h q (.tail _ hq))
    have h2 := h p (.head _)
    simp only [List.length_append, List.length_cons]
    omega
/-- Join of a slice of strings of the call's own, by one sign. -/
theorem joinRowZ (z : UInt8) (A : Option Addr) (ps : List Str) (c B : Nat) (w : World) (h : S3.StrRow w B (.slice A ps.length c) ps) (hp : ∀ p ∈ ps, p.length ≤ 300) (hn : ps.length ≤ 140737488355) :
    Calls Tryz.prog 98 #[.slice A ps.length c, .string ⟨#[z]⟩] w fun e w' => e = .returned (.string (ba (Lib.join ps [z]))) ∧ Below w.heap.size w w' := by
  obtain ⟨A5, c5, eA, hl5, hc5, hI5⟩ := h.strsIn
  obtain ⟨rfl, rfl⟩ : A = A5 ∧ c = c5 := by injection eA with e1 _ e3; exact ⟨e1, e3⟩
  rcases hI5 with h | ⟨b, off, rfl, hb, hcell⟩
  · subst h
    exact (Tryz.strings_Join_none A c ⟨#[z]⟩ w).mono fun e w' ⟨h1, h2⟩ => ⟨h1, h2 ▸ Below.refl _ _⟩
  · have e : (ps.map ba).map (·.data.toList) = ps := by simp [Function.comp_def, ba]
    have hj := Tryz.strings_Join b off c (ps.map ba) ⟨#[z]⟩ w (fun j x hx => by
      rw [List.getElem?_map] at hx
      obtain ⟨y, hy, rfl⟩ := Option.map_eq_some_iff.1 hx
      exact hcell j y hy) hb.2 (by simp; omega) (by simpa using hl5) (by
      rw [e, show (⟨#[z]⟩ : ByteArray).data.toList = [z] from rfl]
      have := joinZ_len z ps hp
      omega)
    rw [e, show (⟨#[z]⟩ : ByteArray).data.toList = [z] from rfl, List.length_map] at hj
    exact hj

set_option maxHeartbeats 8000000 in
set_option maxRecDepth 100000 in
theorem writePatterns_any (n : Int) (A : Option Addr) (l : List Int) (c : Nat) (w : World) (h : NumsIn w (fun k => k < w.heap.size) A l) (hl : l.length ≤ 8) (hE : Env7 w) :
    Calls Tryz.prog 67 #[.slice A l.length c, .int .i64 n] w (Says (.string (ba (patsS n l))) w) := by
  obtain ⟨i9, hi9, hz9, hsi9, hby9⟩ := info_parts S3.infoStr
  unfold Says patsS
  have HH := hid h
  have HE := hid (fun (w' : World) (hb : Below w.heap.size w w') => hE.below hb (Nat.le_refl _))
  clear h hE
  go_enter Tryz.func67, Tryz.ntmps67
  go_wp2
  go_loopw [5, 7, 8, 9, 12] (fun v _ _ _ iv wr => ∃ (i : Nat) (ps : List Str), iv = .int .i64 (i : Int) ∧ i ≤ l.length ∧ S3.StrRow wr w.heap.size v ps ∧ Hid (ps = (l.take i).map (patS n)) ∧ Hid (Below w.heap.size w wr)) (fun _ _ _ _ iv _ => l.length - (RowKit.intOf iv).toNat)
  case atStart => exact ⟨0, [], rfl, Nat.zero_le _, World.ownsRow_nil _ _ _ _, hid rfl, hid (Below.refl _ _)⟩
  case round =>
    obtain ⟨i, ps, rfl, hi, hrow, hps, hK⟩ := hrel
    obtain ⟨Ar, cr, rfl⟩ := S3.row_slice hrow
    have HRow := hid hrow
    clear hrow
    by_cases hlt : i < l.length
    · have hltz : (i : Int) < (l.length : Int) := by omega
      have hHH := HH.out.below hK.out
      obtain ⟨tb, tf, rfl, htb, t0⟩ := hHH.num hlt
      have hst : (l.take (i + 1)).map (patS n) = ps ++ [patS n l[i]] := by rw [hps.out, List.take_succ_eq_append_getElem hlt, List.map_append]; rfl
      have hpl : ps.length = i := by rw [hps.out]; simp; omega
      obtain ⟨p, hp⟩ : ∃ t, l[i] = t := ⟨_, rfl⟩
      rw [hp] at t0 hst
      have cF := format_any p n wr (HE.out wr hK.out).e.names
      have hts : (formM p n).1 = patS n p := rfl
      obtain ⟨⟨tx, te⟩, hR⟩ : ∃ R, formM p n = R := ⟨_, rfl⟩
      unfold FormOut at cF
      rw [hR] at cF hts
      dsimp only at cF hts
      rw [← hts] at hst
      have CF := hid cF
      have HST := hid hst
      have HPL := hid hpl
      clear cF hst hR hts hp hHH hpl
      go_wp2_with fail
      refine CF.out.mono ?_
      rintro e w2 ⟨rfl, hb2⟩
      have HK2 := hid (hK.out.trans (hb2.mono hK.out.size))
      have HRow2 := hid (row_under HRow.out hb2)
      clear hb2 HRow CF t0
      have HC3 : Hid (ps.length + 1 ≤ maxLen) := by unfold maxLen; exact hid (by have := HPL.out; omega)
      have HC4 : Hid ((ps.length + 1) * 16 ≤ 140737488355328) := hid (by have := HPL.out; omega)
      have HC5 : Hid (∀ o : Obj, w.heap.size ≤ (w2.alloc o).heap.size) := hid (fun o => by have := HK2.out.size; simp; omega)
      go_wp2_with (at_builtin; refine wpList_append_own _ rfl _ _ 30 rfl w.heap.size 9 i9 (.string ⟨#[]⟩) 1 16 Tryz.underlying30 hi9 hz9 hsi9 hby9 rfl (by decide) _ ps.length (S3.strVals ps) rfl (World.ownsRow.alloc HRow2.out _) ⟨w2.heap.size, 0, none⟩ 1 1 [.string (ba tx)] rfl rfl (one_new _ _ _) (S3.one_str _) HC3.out HC4.out (HC5.out _) ?_)
      intro v' w4 hown' hgrow _
      have hg' := grownBy_of_alloc hgrow
      have HK4 := hid (HK2.out.trans ((Below.refl _ w2).grown hg' HK2.out.size (fun k hk => (World.ownsRow.lt HRow2.out k hk).1)))
      have HOwn := hid hown'
      clear hg' hgrow hown'
      go_wp2_with fail
      go_roundw
      case rel =>
        refine ⟨i + 1, ps ++ [tx], by go_num, by omega, ?_, hid HST.out.symm, HK4⟩
        unfold S3.StrRow
        rw [S3.strVals_app, List.length_append]
        exact HOwn.out
      case measure => simp [RowKit.intOf]; omega
    · have hltz : ¬ (i : Int) < (l.length : Int) := by omega
      have hpe : Hid (ps = l.map (patS n)) := hid (by rw [hps.out, List.take_of_length_le (by omega)])
      have cJ := joinRowZ 47 Ar ps cr w.heap.size wr HRow.out (fun p hp => by rw [hpe.out] at hp; obtain ⟨t, _, rfl⟩ := List.mem_map.1 hp; exact patS_len _ t) (by rw [hpe.out, List.length_map]; omega)
      have CJ := hid cJ
      clear cJ
      go_wp2_with fail
      refine CJ.out.mono ?_
      rintro e w' ⟨rfl, hb2⟩
      have HB2 := hid (hK.out.trans (hb2.mono hK.out.size))
      clear hb2
      go_wp2
      go_ret
      exact ⟨by rw [hpe.out]; rfl, HB2.out⟩

set_option maxHeartbeats 2000000 in
theorem cwrite_any (A : Option Addr) (l : List Str) (c : Nat) (w : World) (h : S3.StrsIn w (fun b => b < w.heap.size) A l) (hlc : l.length ≤ c) (hc : c ≤ 9223372036854775807) (hE : S3.Env w) :
    Calls Tryz.prog 68 #[.slice A l.length c] w (Says (.string (ba (featsS l))) w) := by
  have cJ := S3.cjoin_any A l c w h hlc hc hE
  unfold S3.JoinOut at cJ
  unfold Says featsS
  obtain ⟨X, hX⟩ : ∃ X, (if S3.checkM l = 0 then S3.joinM l else []) = X := ⟨_, rfl⟩
  obtain ⟨E, hE2⟩ : ∃ X, S3.checkM l = X := ⟨_, rfl⟩
  rw [hX] at cJ ⊢
  rw [hE2] at cJ
  have CJ := hid cJ
  clear cJ hX hE2 h hE
  go_enter Tryz.func68, Tryz.ntmps68
  go_wp2_with fail
  refine CJ.out.mono ?_
  rintro e w' ⟨rfl, hb⟩
  have HB := hid hb
  clear hb
  go_wp2
  go_ret
  exact ⟨rfl, HB.out⟩
end Go.Proofs.YtigdcgklpapfbaaGreatDoor.S10

set_option linter.unusedVariables false
namespace Go.Proofs.YtigdcgklpapfbaaGreatDoor.S10
open Go Go.Proofs Go.RowKit Go.Lib Go.Proofs.YtigdcgklpapfbaaGreatDoor

set_option maxHeartbeats 8000000 in
set_option maxRecDepth 100000 in
theorem writeStarts_any (d s b m : Int) (A : Option Addr) (l : List StartD) (c : Nat) (w : World) (h : StartsIn w (fun k => k < w.heap.size) A l) (hin : ∀ t ∈ l, t.2 ≤ 9223372036854775807) (hl : l.length ≤ 24) (hE : Env7 w) :
    Calls Tryz.prog 69 #[.slice A l.length c, .agg #[.int .i64 d, .int .i64 s, .int .i64 b, .int .i64 m]] w (Says (.string (ba (startsS d s b m l))) w) := by
  obtain ⟨i9, hi9, hz9, hsi9, hby9⟩ := info_parts S3.infoStr
  unfold Says startsS
  have hk := K1.first w d s b m 24
  have HK := hid hk
  have HH := hid h
  have HIN := hid hin
  have HE := hid (fun (w' : World) (hb : Below w.heap.size w w') => hE.below hb (Nat.le_refl _))
  clear hk h hE hin
  go_enter Tryz.func69, Tryz.ntmps69
  go_wp2
  go_loopw [5, 7, 8, 9, 12] (fun v _ _ _ iv wr => ∃ (i : Nat) (ps : List Str), iv = .int .i64 (i : Int) ∧ i ≤ l.length ∧ S3.StrRow wr (w.heap.size + 1) v ps ∧ Hid (ps = (l.take i).map (startS d s b m)) ∧ Hid (K1 w d s b m wr)) (fun _ _ _ _ iv _ => l.length - (RowKit.intOf iv).toNat)
  case atStart => exact ⟨0, [], rfl, Nat.zero_le _, World.ownsRow_nil _ _ _ _, hid rfl, hid HK.out⟩
  case round =>
    obtain ⟨i, ps, rfl, hi, hrow, hps, hK⟩ := hrel
    obtain ⟨Ar, cr, rfl⟩ := S3.row_slice hrow
    have HRow := hid hrow
    clear hrow
    by_cases hlt : i < l.length
    · have hltz : (i : Int) < (l.length : Int) := by omega
      have hHH := HH.out.below hK.out.b
      have hle := HIN.out l[i] (List.getElem_mem hlt)
      obtain ⟨tb, tf, rfl, htb, t0, t1⟩ := hHH.start hlt
      have hst : (l.take (i + 1)).map (startS d s b m) = ps ++ [startS d s b m l[i]] := by rw [hps.out, List.take_succ_eq_append_getElem hlt, List.map_append]; rfl
      have hpl : ps.length = i := by rw [hps.out]; simp; omega
      obtain ⟨⟨y0, u0⟩, ht⟩ : ∃ t, l[i] = t := ⟨_, rfl⟩
      rw [ht] at t0 t1 hle hst
      dsimp only at t0 t1 hle
      have hb1 := (Below.refl wr.heap.size wr).alloc (Nat.le_refl _) (.cells #[.int .i64 y0, .int .i64 u0] 74)
      have hk2 : SJ w wr.heap.size d s b m y0 u0 (wr.alloc (.cells #[.int .i64 y0, .int .i64 u0] 74)) := ⟨⟨(hK.out.next hb1).x, (hK.out.next hb1).b⟩, BoxS.new wr _ _⟩
      have cA := fun W => timeAt_any y0 u0 1 1 W
      unfold Says at cA
      have cF := fun (W : World) (hb : Below w.heap.size w W) => tformat_any d s b m 1 1 y0 u0 1 hle W (HE.out W hb).e (HE.out W hb).d
      have hts : (textT d s b m 1 1 y0 u0 1).1 = startS d s b m (y0, u0) := rfl
      obtain ⟨⟨tx, te⟩, hR⟩ : ∃ R, textT d s b m 1 1 y0 u0 1 = R := ⟨_, rfl⟩
      unfold FormOut at cF
      rw [hR] at cF hts
      dsimp only at cF hts
      rw [← hts] at hst
      have CF := hid cF
      have CA := hid cA
      have HST := hid hst
      have HK2 := hid hk2
      have HRow1 := hid (row_under HRow.out hb1)
      have HPL := hid hpl
      clear cF cA hst hb1 hR hts ht hHH hle hpl hk2
      go_wp2
      clear t0 t1
      generalize wr.alloc (.cells #[.int .i64 y0, .int .i64 u0] 74) = w1 at HK2 HRow1 ⊢
      have hk' := HK2.out
      have hr' := HRow1.out
      obtain ⟨S0, S1, S2, S3, S4, S5⟩ := hk'.all
      go_region_held3 (fun w' => w'.cell? ⟨w.heap.size, 0, none⟩ = some (.int .i64 d) ∧ w'.cell? ⟨w.heap.size, 1, none⟩ = some (.int .i64 s) ∧ w'.cell? ⟨w.heap.size, 2, none⟩ = some (.int .i64 b) ∧ w'.cell? ⟨w.heap.size, 3, none⟩ = some (.int .i64 m) ∧
          w'.cell? ⟨wr.heap.size, 0, none⟩ = some (.int .i64 y0) ∧ w'.cell? ⟨wr.heap.size, 1, none⟩ = some (.int .i64 u0))
        (first | with_reducible exact hk'.all | exact (hk'.next (Below.refl _ _).drew).all)
        (first
          | (go_at_call 43; (with_reducible refine (CA.out _).mono ?_); rintro e wq ⟨rfl, hbq⟩; have hk' := (hk'.next (Below.refl _ _).drew).next hbq; have hr' := row_under (row_under hr' (Below.refl _ _).drew) hbq)
          | (go_at_call 100; (with_reducible refine (CF.out _ hk'.a.b).mono ?_); rintro e wq ⟨rfl, hbq⟩; have hr' := row_under hr' hbq; have hk' := hk'.next hbq))
      all_goals
        have HK2 := hid hk'.a
        have HRow2 := hid hr'
        have HC3 : Hid (ps.length + 1 ≤ maxLen) := by unfold maxLen; exact hid (by have := HPL.out; omega)
        have HC4 : Hid ((ps.length + 1) * 16 ≤ 140737488355328) := hid (by have := HPL.out; omega)
        have HC5 : Hid (∀ o : Obj, w.heap.size + 1 ≤ (wq.alloc o).heap.size) := hid (fun o => by have := HK2.out.g.lt; simp; omega)
        clear S0 S1 S2 S3 S4 S5 hk' hr'
        go_wp2_with (at_builtin; refine wpList_append_own _ rfl _ _ 30 rfl (w.heap.size + 1) 9 i9 (.string ⟨#[]⟩) 1 16 Tryz.underlying30 hi9 hz9 hsi9 hby9 rfl (by decide) _ ps.length (S3.strVals ps) rfl (World.ownsRow.alloc HRow2.out _) ⟨wq.heap.size, 0, none⟩ 1 1 [.string (ba tx)] rfl rfl (one_new _ _ _) (S3.one_str _) HC3.out HC4.out (HC5.out _) ?_)
        intro v' w4 hown' hgrow _
        have hg' := grownBy_of_alloc hgrow
        have hb24 : Below w.heap.size wq w4 := (Below.refl _ wq).grown hg' HK2.out.b.size (fun k hk => by have := (World.ownsRow.lt HRow2.out k hk).1; omega)
        have hx4 : Box4 w4 w.heap.size d s b m := by
          have kc : ∀ o : Nat, w4.cell? ⟨w.heap.size, o, none⟩ = wq.cell? ⟨w.heap.size, o, none⟩ := fun o => World.cell?_of_block (w := wq) (hg'.block _ HK2.out.g.lt (fun e => by have := (World.ownsRow.lt HRow2.out _ e.symm).1; have e2 : w.heap.size + 1 ≤ w.heap.size := this; omega))
          have hx := HK2.out.g
          exact ⟨(kc 0).trans hx.c0, (kc 1).trans hx.c1, (kc 2).trans hx.c2, (kc 3).trans hx.c3, Nat.lt_of_lt_of_le hx.lt hg'.size⟩
        have HK4 : Hid (K1 w d s b m w4) := hid ⟨hx4, HK2.out.b.trans hb24⟩
        have HOwn := hid hown'
        clear hx4 hb24 hg' hgrow hown'
        go_wp2_with fail
        go_roundw
        case rel =>
          refine ⟨i + 1, ps ++ [tx], by go_num, by omega, ?_, hid HST.out.symm, HK4⟩
          unfold S3.StrRow
          rw [S3.strVals_app, List.length_append]
          exact HOwn.out
        case measure => simp [RowKit.intOf]; omega
    · have hltz : ¬ (i : Int) < (l.length : Int) := by omega
      have hpe : Hid (ps = l.map (startS d s b m)) := hid (by rw [hps.out, List.take_of_length_le (by omega)])
      have cJ := joinRow Ar ps cr (w.heap.size + 1) wr HRow.out (fun p hp => by rw [hpe.out] at hp; obtain ⟨t, _, rfl⟩ := List.mem_map.1 hp; exact timeS_len _ _ _ _ _ _) (by rw [hpe.out, List.length_map]; omega)
      have CJ := hid cJ
      clear cJ
      go_wp2_with fail
      refine CJ.out.mono ?_
      rintro e w' ⟨rfl, hb2⟩
      have HB2 := hid (hK.out.next hb2).b
      clear hb2
      go_wp2
      go_ret
      exact ⟨by rw [hpe.out]; rfl, HB2.out⟩
end Go.Proofs.YtigdcgklpapfbaaGreatDoor.S10
