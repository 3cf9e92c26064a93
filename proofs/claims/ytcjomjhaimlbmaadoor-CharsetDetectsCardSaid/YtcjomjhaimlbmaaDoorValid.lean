/-
  unicode/utf8.Valid at a slice of bytes that is not nil: whether no step of the decoder yields (U+FFFD, 1). Conditions: the bytes lie in one block; the library's two tables hold what their initialisers lay. The world: at most new blocks.
-/
import Derived.Test.YtcjomjhaimlbmaaDoorWord
import Derived.Shelf.Unicode.ValidAny
set_option linter.unusedVariables false
namespace Go.Proofs.YtcjomjhaimlbmaaDoor
open Go Go.Proofs Go.RowKit Go.Lib

/-- A tail of a slice whose capacity is its length. -/
theorem tail_at {t : ByteArray} {b o : Nat} {w : World} (h : BytesAt t b o w) (k : Nat) (hk : k ≤ t.size) :
    ∃ o1, (if t.size = k then some ⟨b, o, none⟩ else some ⟨b, o + k, none⟩ : Option Addr) = some ⟨b, o1, none⟩ ∧ BytesAt (t.extract k t.size) b o1 w := by
  by_cases e : t.size = k
  · rw [if_pos e]
    exact ⟨o, rfl, fun j hj => by rw [Lib.ext_size] at hj; omega⟩
  · rw [if_neg e]
    exact ⟨o + k, rfl, h.tail k⟩
theorem word_draws {s : ByteArray} {b off : Nat} {w : World} (hs : 8 ≤ s.size) (hB : BytesAt s b off w) (A : Nat) (hA : Lib.leNat [s.get! 0, s.get! 1, s.get! 2, s.get! 3, s.get! 4, s.get! 5, s.get! 6, s.get! 7] = A) (n : Nat) :
    Calls Tryd.prog 39 #[.slice (some ⟨b, off, none⟩) s.size s.size] (w.drewN n) fun e w' => e = .returned (.int .u64 A) ∧ ∃ q, w' = (w.drewN n).drewN q := by
  rw [← hA]
  exact word_any s b off s.size (w.drewN n) hs (hB.below (below_drewNg w n))

set_option maxHeartbeats 16000000 in
set_option maxRecDepth 1000000 in
theorem valid_any (s : ByteArray) (b off cap : Nat) (w : World) (hs : s.size ≤ 9223372036854775807) (hcap : s.size ≤ cap) (hT : Lib.Utf8Tabs 0 1 w) (hB : BytesAt s b off w) :
    Calls Tryd.prog 29 #[.slice (some ⟨b, off, none⟩) s.size cap] w fun e w' => e = .returned (.bool (Lib.validD s.data.toList)) ∧ Below w.heap.size w w' := by
  have mixed : Tryd.prog.follows .mixedOrders = true := by kernel_rfl
  obtain ⟨ANS, hANS⟩ : ∃ ANS, Lib.validD s.data.toList = ANS := ⟨_, rfl⟩
  rw [hANS]
  go_enter Tryd.func29, Tryd.ntmps29
  go_wp2
  go_loopg [0] (s.size + 1) (fun gk s0 wx => Below w.heap.size w wx ∧ ∃ (t : ByteArray) (o : Nat), s0 = .slice (some ⟨b, o, none⟩) t.size t.size ∧ BytesAt t b o wx ∧ Lib.validD t.data.toList = ANS ∧ t.size < gk ∧ t.size ≤ 9223372036854775807)
  case atStart => exact ⟨Below.refl _ _, s, off, rfl, hB, hANS, by omega, hs⟩
  case round =>
    obtain ⟨hbw, t, o, rfl, hBt, hv, hg, hts⟩ := hrel
    clear hANS hB
    have hTr := Utf8Tabs_below hT hbw
    by_cases h0 : 0 < t.size
    · obtain ⟨g', rfl⟩ : ∃ g', gk = g' + 1 := ⟨gk - 1, by omega⟩
      have h0z : (0 : Int) < (t.size : Int) := by omega
      obtain ⟨x0, hx0⟩ : ∃ x0, t.get! 0 = x0 := ⟨_, rfl⟩
      have hs0 : wr.cell? ⟨b, o, none⟩ = some (.int .u8 x0.toNat) := by have := hBt 0 (by omega); rwa [hx0] at this
      have hx0lt : x0.toNat < 256 := x0.toNat_lt
      by_cases hasc : x0.toNat < 128
      · as_aux_lemma =>
        -- a byte below 128: the fast path
        have hascz : (x0.toNat : Int) < 128 := by omega
        have a1 : Lib.Asc t 1 := Lib.asc_one t h0 (by rw [hx0]; exact hasc)
        obtain ⟨o1, e1p, hB1⟩ := tail_at hBt 1 (by omega)
        obtain ⟨t1, ht1⟩ : ∃ t1, t.extract 1 t.size = t1 := ⟨_, rfl⟩
        rw [ht1] at hB1
        have z1 : t1.size + 1 = t.size := by rw [← ht1, Lib.ext_size]; omega
        have e1n : t.size - 1 = t1.size := by omega
        have v1 : Lib.validD t1.data.toList = ANS := by rw [← ht1, Lib.valid_skip t 1 a1]; exact hv
        clear hTr hT hv a1 hBt ht1
        by_cases c8 : 8 < t1.size
        · have c8z : (8 : Int) < (t1.size : Int) := by omega
          obtain ⟨A1, hA1⟩ : ∃ A1, Lib.leNat [t1.get! 0, t1.get! 1, t1.get! 2, t1.get! 3, t1.get! 4, t1.get! 5, t1.get! 6, t1.get! 7] = A1 := ⟨_, rfl⟩
          have lA1 : A1 < 18446744073709551616 := hA1 ▸ Lib.word_lt t1
          have cW1 : Calls Tryd.prog 39 #[.slice (some ⟨b, o1, none⟩) t1.size t1.size] wr fun e w' => e = .returned (.int .u64 A1) ∧ ∃ q, w' = wr.drewN q := word_draws (by omega) hB1 A1 hA1 0
          have kA1 := Lib.word_asc t1 (by omega)
          rw [hA1] at kA1
          have hand1 : bits .and .u64 (A1 : Int) 9259542123273814144 = ((A1 &&& 9259542123273814144 : Nat) : Int) := u64_and_nat A1 9259542123273814144 lA1 (by omega)
          obtain ⟨Z1, hZ1⟩ : ∃ Z1, A1 &&& 9259542123273814144 = Z1 := ⟨_, rfl⟩
          rw [hZ1] at hand1 kA1
          clear hA1
          by_cases hz1 : Z1 = 0
          · have hz1b : ((Z1 : Int) == 0) = true := by simp [hz1]
            have a8 : Lib.Asc t1 8 := kA1.1 hz1
            obtain ⟨o2, ho2⟩ : ∃ o2, o1 + 8 = o2 := ⟨_, rfl⟩
            have hB2 := hB1.tail 8
            obtain ⟨t2, ht2⟩ : ∃ t2, t1.extract 8 t1.size = t2 := ⟨_, rfl⟩
            rw [ht2, ho2] at hB2
            have z2 : t2.size + 8 = t1.size := by rw [← ht2, Lib.ext_size]; omega
            have e2n : t1.size - 8 = t2.size := by omega
            have v2 : Lib.validD t2.data.toList = ANS := by rw [← ht2, Lib.valid_skip t1 8 a8]; exact v1
            clear kA1 a8 v1 ht2 hB1
            go_wp2_with (go_at_call 39; go_must (refine cW1.mono ?_; rintro e W1 ⟨rfl, q1, rfl⟩))
            have hb1 : Below w.heap.size w (wr.drewN q1) := below_drewNv hbw q1
            replace hB2 := hB2.below (below_drewNg wr q1)
            generalize wr.drewN q1 = wq at hb1 hB2 ⊢
            clear cW1 hbw hs0
            by_cases c16 : 16 < t2.size
            · have c16z : (16 : Int) < (t2.size : Int) := by omega
              have s8z : (8 : Int) ≤ (t2.size : Int) := by omega
              have hB2b := hB2.tail 8
              obtain ⟨t2b, ht2b⟩ : ∃ t2b, t2.extract 8 t2.size = t2b := ⟨_, rfl⟩
              rw [ht2b] at hB2b
              have z2b : t2b.size + 8 = t2.size := by rw [← ht2b, Lib.ext_size]; omega
              have e2bn : t2.size - 8 = t2b.size := by omega
              obtain ⟨A2, hA2⟩ : ∃ A2, Lib.leNat [t2.get! 0, t2.get! 1, t2.get! 2, t2.get! 3, t2.get! 4, t2.get! 5, t2.get! 6, t2.get! 7] = A2 := ⟨_, rfl⟩
              have lA2 : A2 < 18446744073709551616 := hA2 ▸ Lib.word_lt t2
              have cW2 := word_draws (by omega) hB2 A2 hA2
              have kA2 := Lib.word_asc t2 (by omega)
              rw [hA2] at kA2
              obtain ⟨A3, hA3⟩ : ∃ A3, Lib.leNat [t2b.get! 0, t2b.get! 1, t2b.get! 2, t2b.get! 3, t2b.get! 4, t2b.get! 5, t2b.get! 6, t2b.get! 7] = A3 := ⟨_, rfl⟩
              have lA3 : A3 < 18446744073709551616 := hA3 ▸ Lib.word_lt t2b
              have cW3 := word_draws (by omega) hB2b A3 hA3
              have kA3 := Lib.word_asc t2b (by omega)
              rw [hA3] at kA3
              have hor2 : bits .or .u64 (A2 : Int) (A3 : Int) = ((A2 ||| A3 : Nat) : Int) := u64_or_nat A2 A3 lA2 lA3
              have lor2 : A2 ||| A3 < 18446744073709551616 := Nat.or_lt_two_pow (n := 64) lA2 lA3
              have hand2 : bits .and .u64 ((A2 ||| A3 : Nat) : Int) 9259542123273814144 = (((A2 ||| A3) &&& 9259542123273814144 : Nat) : Int) := u64_and_nat _ 9259542123273814144 lor2 (by omega)
              have k2 : (A2 ||| A3) &&& 9259542123273814144 = 0 → Lib.Asc t2 16 := fun h0' => by
                obtain ⟨e1, e2⟩ := (Lib.or_mask A2 A3 _).1 h0'
                exact Lib.asc_add t2 8 8 (kA2.1 e1) (by rw [ht2b]; exact kA3.1 e2)
              obtain ⟨O2, hO2⟩ : ∃ O2, A2 ||| A3 = O2 := ⟨_, rfl⟩
              rw [hO2] at hor2 hand2 k2
              obtain ⟨Z2, hZ2⟩ : ∃ Z2, O2 &&& 9259542123273814144 = Z2 := ⟨_, rfl⟩
              rw [hZ2] at hand2 k2
              clear kA2 kA3 lor2 hO2 hZ2 hA2 hA3 ht2b hB2b
              by_cases hz2 : Z2 = 0
              · have hz2b : ((Z2 : Int) == 0) = true := by simp [hz2]
                have a16 := k2 hz2
                obtain ⟨o3, ho3⟩ : ∃ o3, o2 + 16 = o3 := ⟨_, rfl⟩
                have hB3 := hB2.tail 16
                obtain ⟨t3, ht3⟩ : ∃ t3, t2.extract 16 t2.size = t3 := ⟨_, rfl⟩
                rw [ht3, ho3] at hB3
                have z3 : t3.size + 16 = t2.size := by rw [← ht3, Lib.ext_size]; omega
                have e3n : t2.size - 16 = t3.size := by omega
                have v3 : Lib.validD t3.data.toList = ANS := by rw [← ht3, Lib.valid_skip t2 16 a16]; exact v2
                clear k2 a16 v2 ht3 hB2
                go_big_quiet_o (first | (go_at_call 39; with_reducible refine Calls.quiet_of (cW2 _)) | (go_at_call 39; with_reducible refine Calls.quiet_of (cW3 _)))
                have hb2 : Below w.heap.size w (wq.drewN nq) := below_drewNv hb1 nq
                replace hB3 := hB3.below (below_drewNg wq nq)
                generalize wq.drewN nq = wq2 at hb2 hB3 ⊢
                clear cW2 cW3 hb1
                go_wp2
                -- 32 bytes a round
                go_loopg [0] (t3.size + 1) (fun g2 s0 wx => Below w.heap.size w wx ∧ ∃ (u : ByteArray) (ou : Nat), s0 = .slice (some ⟨b, ou, none⟩) u.size u.size ∧ BytesAt u b ou wx ∧ Lib.validD u.data.toList = ANS ∧ u.size < g2 ∧ u.size ≤ t3.size)
                case atStart => exact ⟨hb2, t3, o3, rfl, hB3, v3, by omega, Nat.le_refl _⟩
                case round =>
                  obtain ⟨hbu, u, ou, rfl, hBu, vu, hgu, hut⟩ := hrel
                  clear e1p e1n e2n e2bn e3n ho2 ho3 hB3
                  by_cases c32 : 32 < u.size
                  · obtain ⟨g3, rfl⟩ : ∃ g3, gk = g3 + 1 := ⟨gk - 1, by omega⟩
                    have c32z : (32 : Int) < (u.size : Int) := by omega
                    have s8u : (8 : Int) ≤ (u.size : Int) := by omega
                    have s16u : (16 : Int) ≤ (u.size : Int) := by omega
                    have s24u : (24 : Int) ≤ (u.size : Int) := by omega
                    have hBub := hBu.tail 8
                    obtain ⟨ub, hub⟩ : ∃ ub, u.extract 8 u.size = ub := ⟨_, rfl⟩
                    rw [hub] at hBub
                    have zub : ub.size + 8 = u.size := by rw [← hub, Lib.ext_size]; omega
                    have eub : u.size - 8 = ub.size := by omega
                    have hBuc := hBu.tail 16
                    obtain ⟨uc, huc⟩ : ∃ uc, u.extract 16 u.size = uc := ⟨_, rfl⟩
                    rw [huc] at hBuc
                    have zuc : uc.size + 16 = u.size := by rw [← huc, Lib.ext_size]; omega
                    have euc : u.size - 16 = uc.size := by omega
                    have hBud := hBu.tail 24
                    obtain ⟨ud, hud⟩ : ∃ ud, u.extract 24 u.size = ud := ⟨_, rfl⟩
                    rw [hud] at hBud
                    have zud : ud.size + 24 = u.size := by rw [← hud, Lib.ext_size]; omega
                    have eud : u.size - 24 = ud.size := by omega
                    obtain ⟨B0, hB0⟩ : ∃ B0, Lib.leNat [u.get! 0, u.get! 1, u.get! 2, u.get! 3, u.get! 4, u.get! 5, u.get! 6, u.get! 7] = B0 := ⟨_, rfl⟩
                    have lB0 : B0 < 18446744073709551616 := hB0 ▸ Lib.word_lt u
                    have cB0 := word_draws (by omega) hBu B0 hB0
                    have kB0 := Lib.word_asc u (by omega)
                    rw [hB0] at kB0
                    obtain ⟨B1, hB1⟩ : ∃ B1, Lib.leNat [ub.get! 0, ub.get! 1, ub.get! 2, ub.get! 3, ub.get! 4, ub.get! 5, ub.get! 6, ub.get! 7] = B1 := ⟨_, rfl⟩
                    have lB1 : B1 < 18446744073709551616 := hB1 ▸ Lib.word_lt ub
                    have cB1 := word_draws (by omega) hBub B1 hB1
                    have kB1 := Lib.word_asc ub (by omega)
                    rw [hB1] at kB1
                    obtain ⟨B2, hB2⟩ : ∃ B2, Lib.leNat [uc.get! 0, uc.get! 1, uc.get! 2, uc.get! 3, uc.get! 4, uc.get! 5, uc.get! 6, uc.get! 7] = B2 := ⟨_, rfl⟩
                    have lB2 : B2 < 18446744073709551616 := hB2 ▸ Lib.word_lt uc
                    have cB2 := word_draws (by omega) hBuc B2 hB2
                    have kB2 := Lib.word_asc uc (by omega)
                    rw [hB2] at kB2
                    obtain ⟨B3, hB3⟩ : ∃ B3, Lib.leNat [ud.get! 0, ud.get! 1, ud.get! 2, ud.get! 3, ud.get! 4, ud.get! 5, ud.get! 6, ud.get! 7] = B3 := ⟨_, rfl⟩
                    have lB3 : B3 < 18446744073709551616 := hB3 ▸ Lib.word_lt ud
                    have cB3 := word_draws (by omega) hBud B3 hB3
                    have kB3 := Lib.word_asc ud (by omega)
                    rw [hB3] at kB3
                    have hq1 : bits .or .u64 (B0 : Int) (B1 : Int) = ((B0 ||| B1 : Nat) : Int) := u64_or_nat B0 B1 lB0 lB1
                    have hq2 : bits .or .u64 (B2 : Int) (B3 : Int) = ((B2 ||| B3 : Nat) : Int) := u64_or_nat B2 B3 lB2 lB3
                    have lo1 : B0 ||| B1 < 18446744073709551616 := Nat.or_lt_two_pow (n := 64) lB0 lB1
                    have lo2 : B2 ||| B3 < 18446744073709551616 := Nat.or_lt_two_pow (n := 64) lB2 lB3
                    have hq3 : bits .or .u64 ((B0 ||| B1 : Nat) : Int) ((B2 ||| B3 : Nat) : Int) = (((B0 ||| B1) ||| (B2 ||| B3) : Nat) : Int) := u64_or_nat _ _ lo1 lo2
                    have lo3 : (B0 ||| B1) ||| (B2 ||| B3) < 18446744073709551616 := Nat.or_lt_two_pow (n := 64) lo1 lo2
                    have hand3 : bits .and .u64 (((B0 ||| B1) ||| (B2 ||| B3) : Nat) : Int) 9259542123273814144 = ((((B0 ||| B1) ||| (B2 ||| B3)) &&& 9259542123273814144 : Nat) : Int) := u64_and_nat _ 9259542123273814144 lo3 (by omega)
                    have k3 : ((B0 ||| B1) ||| (B2 ||| B3)) &&& 9259542123273814144 = 0 → Lib.Asc u 32 := fun h0' => by
                      obtain ⟨e01, e23⟩ := (Lib.or_mask _ _ _).1 h0'
                      obtain ⟨e0, e1⟩ := (Lib.or_mask _ _ _).1 e01
                      obtain ⟨e2, e3⟩ := (Lib.or_mask _ _ _).1 e23
                      have s16 : Lib.Asc u 16 := Lib.asc_add u 8 8 (kB0.1 e0) (by rw [hub]; exact kB1.1 e1)
                      have s24 : Lib.Asc u 24 := Lib.asc_add u 16 8 s16 (by rw [huc]; exact kB2.1 e2)
                      exact Lib.asc_add u 24 8 s24 (by rw [hud]; exact kB3.1 e3)
                    obtain ⟨P1, hP1⟩ : ∃ P1, B0 ||| B1 = P1 := ⟨_, rfl⟩
                    obtain ⟨P2, hP2⟩ : ∃ P2, B2 ||| B3 = P2 := ⟨_, rfl⟩
                    rw [hP1, hP2] at hq3 hand3 k3
                    rw [hP1] at hq1
                    rw [hP2] at hq2
                    obtain ⟨P3, hP3⟩ : ∃ P3, P1 ||| P2 = P3 := ⟨_, rfl⟩
                    rw [hP3] at hq3 hand3 k3
                    obtain ⟨Z3, hZ3⟩ : ∃ Z3, P3 &&& 9259542123273814144 = Z3 := ⟨_, rfl⟩
                    rw [hZ3] at hand3 k3
                    clear kB0 kB1 kB2 kB3 lo1 lo2 lo3 hP1 hP2 hP3 hZ3 hB0 hB1 hB2 hB3 hBub hBuc hBud hub huc hud
                    by_cases hz3 : Z3 = 0
                    · have hz3b : ((Z3 : Int) == 0) = true := by simp [hz3]
                      have a32 := k3 hz3
                      have hB4 := hBu.tail 32
                      obtain ⟨u2, hu2⟩ : ∃ u2, u.extract 32 u.size = u2 := ⟨_, rfl⟩
                      rw [hu2] at hB4
                      have zu2 : u2.size + 32 = u.size := by rw [← hu2, Lib.ext_size]; omega
                      have eu2 : u.size - 32 = u2.size := by omega
                      have vu2 : Lib.validD u2.data.toList = ANS := by rw [← hu2, Lib.valid_skip u 32 a32]; exact vu
                      clear hu2
                      go_wp2_with fail
                      go_big_quiet_o (first | (go_at_call 39; with_reducible refine Calls.quiet_of (cB0 _)) | (go_at_call 39; with_reducible refine Calls.quiet_of (cB1 _)) | (go_at_call 39; with_reducible refine Calls.quiet_of (cB2 _)) | (go_at_call 39; with_reducible refine Calls.quiet_of (cB3 _)))
                      go_wp2
                      go_roundg g3
                      case measure => omega
                      case rel => exact ⟨below_drewNv hbu nq, u2, _, rfl, hB4.below (below_drewNg _ nq), vu2, by omega, by omega⟩
                    · have hz3b : ((Z3 : Int) == 0) = false := by simp; omega
                      go_wp2_with fail
                      go_big_quiet_o (first | (go_at_call 39; with_reducible refine Calls.quiet_of (cB0 _)) | (go_at_call 39; with_reducible refine Calls.quiet_of (cB1 _)) | (go_at_call 39; with_reducible refine Calls.quiet_of (cB2 _)) | (go_at_call 39; with_reducible refine Calls.quiet_of (cB3 _)))
                      go_wp2
                      go_roundg g'
                      case measure => omega
                      case rel => exact ⟨below_drewNv hbu nq, u, _, rfl, hBu.below (below_drewNg _ nq), vu, by omega, by omega⟩
                  · have c32z : ¬ ((32 : Int) < (u.size : Int)) := by omega
                    have c32b : decide ((32 : Int) < (u.size : Int)) = false := decide_eq_false c32z
                    go_wp2_with fail
                    go_big_quiet_o (fail)
                    go_wp2
                    go_roundg g'
                    case measure => omega
                    case rel => exact ⟨below_drewNv hbu nq, u, _, rfl, hBu.below (below_drewNg _ nq), vu, by omega, by omega⟩
              · have hz2b : ((Z2 : Int) == 0) = false := by simp; omega
                go_big_quiet_o (first | (go_at_call 39; with_reducible refine Calls.quiet_of (cW2 _)) | (go_at_call 39; with_reducible refine Calls.quiet_of (cW3 _)))
                go_wp2
                go_roundg g'
                case measure => omega
                case rel => exact ⟨below_drewNv hb1 nq, t2, _, rfl, hB2.below (below_drewNg _ nq), v2, by omega, by omega⟩
            · have c16z : ¬ ((16 : Int) < (t2.size : Int)) := by omega
              have c16b : decide ((16 : Int) < (t2.size : Int)) = false := decide_eq_false c16z
              go_big_quiet_o (fail)
              go_wp2
              go_roundg g'
              case measure => omega
              case rel => exact ⟨below_drewNv hb1 nq, t2, _, rfl, hB2.below (below_drewNg _ nq), v2, by omega, by omega⟩
          · have hz1b : ((Z1 : Int) == 0) = false := by simp; omega
            go_wp2_with (go_at_call 39; go_must (refine cW1.mono ?_; rintro e W1 ⟨rfl, q1, rfl⟩))
            go_roundg g'
            case measure => omega
            case rel => exact ⟨below_drewNv hbw q1, t1, _, rfl, hB1.below (below_drewNg _ q1), v1, by omega, by omega⟩
        · have c8z : ¬ ((8 : Int) < (t1.size : Int)) := by omega
          go_wp2
          go_roundg g'
          case measure => omega
          case rel => exact ⟨hbw, t1, _, rfl, hB1, v1, by omega, by omega⟩
      · as_aux_lemma =>
        -- a lead byte from 128 on
        have hge : 128 ≤ x0.toNat := by omega
        have hascz : ¬ ((x0.toNat : Int) < 128) := by omega
        have hbl : b < wr.heap.size := block_lt_of_cell hs0
        obtain ⟨x1, hx1⟩ : ∃ x1, t.get! 1 = x1 := ⟨_, rfl⟩
        have hq1 : 1 < t.size → wr.cell? ⟨b, o + 1, none⟩ = some (.int .u8 x1.toNat) := fun h => by have := hBt 1 h; rwa [hx1] at this
        obtain ⟨x2, hx2⟩ : ∃ x2, t.get! 2 = x2 := ⟨_, rfl⟩
        have hq2 : 2 < t.size → wr.cell? ⟨b, o + 2, none⟩ = some (.int .u8 x2.toNat) := fun h => by have := hBt 2 h; rwa [hx2] at this
        obtain ⟨x3, hx3⟩ : ∃ x3, t.get! 3 = x3 := ⟨_, rfl⟩
        have hq3 : 3 < t.size → wr.cell? ⟨b, o + 3, none⟩ = some (.int .u8 x3.toNat) := fun h => by have := hBt 3 h; rwa [hx3] at this
        have l1 := x1.toNat_lt; have l2 := x2.toNat_lt; have l3 := x3.toNat_lt
        have hne : t.data.toList ≠ [] := fun h => by rw [Lib.size_eq, h] at h0; simp at h0
        have hlead := Lib.validD_lead t.data.toList hne (by rw [Lib.getD_get!', hx0]; exact hge)
        rw [Lib.getD_get!', Lib.getD_get!', Lib.getD_get!', Lib.getD_get!', hx0, hx1, hx2, hx3, ← Lib.size_eq, hv] at hlead
        have hc0 := hTr.1 x0.toNat hx0lt
        have hXlt : Lib.firstT x0.toNat < 256 := by rcases Lib.firstT_cases x0.toNat with h | h | h | h | h | h | h | h | h <;> omega
        obtain ⟨X, hX⟩ : ∃ X, Lib.firstT x0.toNat = X := ⟨_, rfl⟩
        rw [hX] at hc0 hXlt hlead
        have h7 := and7 ⟨X, hXlt⟩
        simp only at h7
        have ha0 : wr.cell? ⟨1, X / 16 * 2, none⟩ = some (.int .u8 (Lib.accLo (X / 16))) := by rw [Nat.mul_comm]; exact (hTr.2 (X / 16) (by omega)).1
        have ha1 : wr.cell? ⟨1, X / 16 * 2 + 1, none⟩ = some (.int .u8 (Lib.accHi (X / 16))) := by rw [Nat.mul_comm]; exact (hTr.2 (X / 16) (by omega)).2
        obtain ⟨LO, hLO⟩ : ∃ LO, Lib.accLo (X / 16) = LO := ⟨_, rfl⟩
        obtain ⟨HI, hHI⟩ : ∃ HI, Lib.accHi (X / 16) = HI := ⟨_, rfl⟩
        rw [hLO] at ha0 hlead
        rw [hHI] at ha1 hlead
        obtain ⟨SZ, hSZ⟩ : ∃ SZ, X % 8 = SZ := ⟨_, rfl⟩
        rw [hSZ] at hlead
        clear hTr hT hX hv hLO hHI hne hx0 hx1 hx2 hx3
        have HBt := hid hBt
        clear hBt
        by_cases s2 : SZ = 2
        · as_aux_lemma =>
          subst s2
          have hSZz : (X : Int) % 8 = 2 := by omega
          simp only [Lib.checkN, Nat.reduceEqDiff, if_true, if_false] at hlead
          go_upto_region 18 with fail
          go_cut [103] from 85 to 103 (fun c wx => c = .bool (decide (t.size < 2 ∨ x1.toNat < LO ∨ HI < x1.toNat)) ∧ Below wr.heap.size wr wx)
          case first =>
            by_cases q0 : t.size < 2
            · have q0z : (t.size : Int) < 2 := by omega
              clear hq1 hq2 hq3
              go_big_quiet_o (fail)
              go_wp2
              go_meet
              exact ⟨congrArg Value.bool (decide_eq_true (p := t.size < 2 ∨ x1.toNat < LO ∨ HI < x1.toNat) (by omega)).symm, below_drewNv ((Below.refl _ _).alloc (Nat.le_refl _) _) _⟩
            · have q0z : ¬ ((t.size : Int) < 2) := by omega
              have hz1 : (1 : Int) < (t.size : Int) := by omega
              have hp1 : 1 < t.size := by omega
              have hs1 := hq1 hp1
              clear hq1 hq2 hq3
              by_cases q1 : x1.toNat < LO
              · have q1z : (x1.toNat : Int) < (LO : Int) := by omega
                go_big_quiet_o (fail)
                go_wp2
                go_meet
                exact ⟨congrArg Value.bool (decide_eq_true (p := t.size < 2 ∨ x1.toNat < LO ∨ HI < x1.toNat) (by omega)).symm, below_drewNv ((Below.refl _ _).alloc (Nat.le_refl _) _) _⟩
              · have q1z : ¬ ((x1.toNat : Int) < (LO : Int)) := by omega
                by_cases q2 : HI < x1.toNat
                · have q2z : (HI : Int) < (x1.toNat : Int) := by omega
                  go_big_quiet_o (fail)
                  go_wp2
                  go_meet
                  exact ⟨congrArg Value.bool (decide_eq_true (p := t.size < 2 ∨ x1.toNat < LO ∨ HI < x1.toNat) (by omega)).symm, below_drewNv ((Below.refl _ _).alloc (Nat.le_refl _) _) _⟩
                · have q2z : ¬ ((HI : Int) < (x1.toNat : Int)) := by omega
                  go_big_quiet_o (fail)
                  go_wp2
                  go_meet
                  exact ⟨congrArg Value.bool (decide_eq_false (p := t.size < 2 ∨ x1.toNat < LO ∨ HI < x1.toNat) (by omega)).symm, below_drewNv ((Below.refl _ _).alloc (Nat.le_refl _) _) _⟩
          case rest =>
            obtain ⟨rfl, hbr⟩ := hcut
            have hbc := hbw.trans (hbr.mono hbw.size)
            by_cases hb : t.size < 2 ∨ x1.toNat < LO ∨ HI < x1.toNat
            · have hbd : decide (t.size < 2 ∨ x1.toNat < LO ∨ HI < x1.toNat) = true := decide_eq_true hb
              rw [if_pos hb] at hlead
              go_wp2
              all_goals (go_ret; exact ⟨by first | rfl | rw [hlead], hbc⟩)
            · have hbd : decide (t.size < 2 ∨ x1.toNat < LO ∨ HI < x1.toNat) = false := decide_eq_false hb
              rw [if_neg hb] at hlead
              obtain ⟨o1, e1, hB1⟩ := tail_at (HBt.out.below hbr) 2 (by omega)
              go_wp2
              go_roundg g'
              case measure => omega
              case rel => exact ⟨hbc, t.extract 2 t.size, o1, by rw [Lib.ext_size], hB1, by rw [Lib.ext_list, hlead], by rw [Lib.ext_size]; omega, by rw [Lib.ext_size]; omega⟩
        by_cases s3 : SZ = 3
        · as_aux_lemma =>
          subst s3
          have hSZz : (X : Int) % 8 = 3 := by omega
          simp only [Lib.checkN, Nat.reduceEqDiff, if_true, if_false] at hlead
          go_upto_region 22 with fail
          go_cut [138] from 108 to 138 (fun c wx => c = .bool (decide (t.size < 3 ∨ x1.toNat < LO ∨ HI < x1.toNat ∨ x2.toNat < 128 ∨ 191 < x2.toNat)) ∧ Below wr.heap.size wr wx)
          case first =>
            by_cases q0 : t.size < 3
            · have q0z : (t.size : Int) < 3 := by omega
              clear hq1 hq2 hq3
              go_big_quiet_o (fail)
              go_wp2
              go_meet
              exact ⟨congrArg Value.bool (decide_eq_true (p := t.size < 3 ∨ x1.toNat < LO ∨ HI < x1.toNat ∨ x2.toNat < 128 ∨ 191 < x2.toNat) (by omega)).symm, below_drewNv ((Below.refl _ _).alloc (Nat.le_refl _) _) _⟩
            · have q0z : ¬ ((t.size : Int) < 3) := by omega
              have hz1 : (1 : Int) < (t.size : Int) := by omega
              have hp1 : 1 < t.size := by omega
              have hs1 := hq1 hp1
              have hz2 : (2 : Int) < (t.size : Int) := by omega
              have hp2 : 2 < t.size := by omega
              have hs2 := hq2 hp2
              clear hq1 hq2 hq3
              by_cases q1 : x1.toNat < LO
              · have q1z : (x1.toNat : Int) < (LO : Int) := by omega
                go_big_quiet_o (fail)
                go_wp2
                go_meet
                exact ⟨congrArg Value.bool (decide_eq_true (p := t.size < 3 ∨ x1.toNat < LO ∨ HI < x1.toNat ∨ x2.toNat < 128 ∨ 191 < x2.toNat) (by omega)).symm, below_drewNv ((Below.refl _ _).alloc (Nat.le_refl _) _) _⟩
              · have q1z : ¬ ((x1.toNat : Int) < (LO : Int)) := by omega
                by_cases q2 : HI < x1.toNat
                · have q2z : (HI : Int) < (x1.toNat : Int) := by omega
                  go_big_quiet_o (fail)
                  go_wp2
                  go_meet
                  exact ⟨congrArg Value.bool (decide_eq_true (p := t.size < 3 ∨ x1.toNat < LO ∨ HI < x1.toNat ∨ x2.toNat < 128 ∨ 191 < x2.toNat) (by omega)).symm, below_drewNv ((Below.refl _ _).alloc (Nat.le_refl _) _) _⟩
                · have q2z : ¬ ((HI : Int) < (x1.toNat : Int)) := by omega
                  by_cases q3 : x2.toNat < 128
                  · have q3z : (x2.toNat : Int) < 128 := by omega
                    go_big_quiet_o (fail)
                    go_wp2
                    go_meet
                    exact ⟨congrArg Value.bool (decide_eq_true (p := t.size < 3 ∨ x1.toNat < LO ∨ HI < x1.toNat ∨ x2.toNat < 128 ∨ 191 < x2.toNat) (by omega)).symm, below_drewNv ((Below.refl _ _).alloc (Nat.le_refl _) _) _⟩
                  · have q3z : ¬ ((x2.toNat : Int) < 128) := by omega
                    by_cases q4 : 191 < x2.toNat
                    · have q4z : (191 : Int) < (x2.toNat : Int) := by omega
                      go_big_quiet_o (fail)
                      go_wp2
                      go_meet
                      exact ⟨congrArg Value.bool (decide_eq_true (p := t.size < 3 ∨ x1.toNat < LO ∨ HI < x1.toNat ∨ x2.toNat < 128 ∨ 191 < x2.toNat) (by omega)).symm, below_drewNv ((Below.refl _ _).alloc (Nat.le_refl _) _) _⟩
                    · have q4z : ¬ ((191 : Int) < (x2.toNat : Int)) := by omega
                      go_big_quiet_o (fail)
                      go_wp2
                      go_meet
                      exact ⟨congrArg Value.bool (decide_eq_false (p := t.size < 3 ∨ x1.toNat < LO ∨ HI < x1.toNat ∨ x2.toNat < 128 ∨ 191 < x2.toNat) (by omega)).symm, below_drewNv ((Below.refl _ _).alloc (Nat.le_refl _) _) _⟩
          case rest =>
            obtain ⟨rfl, hbr⟩ := hcut
            have hbc := hbw.trans (hbr.mono hbw.size)
            by_cases hb : t.size < 3 ∨ x1.toNat < LO ∨ HI < x1.toNat ∨ x2.toNat < 128 ∨ 191 < x2.toNat
            · have hbd : decide (t.size < 3 ∨ x1.toNat < LO ∨ HI < x1.toNat ∨ x2.toNat < 128 ∨ 191 < x2.toNat) = true := decide_eq_true hb
              rw [if_pos hb] at hlead
              go_wp2
              all_goals (go_ret; exact ⟨by first | rfl | rw [hlead], hbc⟩)
            · have hbd : decide (t.size < 3 ∨ x1.toNat < LO ∨ HI < x1.toNat ∨ x2.toNat < 128 ∨ 191 < x2.toNat) = false := decide_eq_false hb
              rw [if_neg hb] at hlead
              obtain ⟨o1, e1, hB1⟩ := tail_at (HBt.out.below hbr) 3 (by omega)
              go_wp2
              go_roundg g'
              case measure => omega
              case rel => exact ⟨hbc, t.extract 3 t.size, o1, by rw [Lib.ext_size], hB1, by rw [Lib.ext_list, hlead], by rw [Lib.ext_size]; omega, by rw [Lib.ext_size]; omega⟩
        by_cases s4 : SZ = 4
        · as_aux_lemma =>
          subst s4
          have hSZz : (X : Int) % 8 = 4 := by omega
          simp only [Lib.checkN, Nat.reduceEqDiff, if_true, if_false] at hlead
          go_upto_region 26 with fail
          go_cut [185] from 143 to 185 (fun c wx => c = .bool (decide (t.size < 4 ∨ x1.toNat < LO ∨ HI < x1.toNat ∨ x2.toNat < 128 ∨ 191 < x2.toNat ∨ x3.toNat < 128 ∨ 191 < x3.toNat)) ∧ Below wr.heap.size wr wx)
          case first =>
            by_cases q0 : t.size < 4
            · have q0z : (t.size : Int) < 4 := by omega
              clear hq1 hq2 hq3
              go_big_quiet_o (fail)
              go_wp2
              go_meet
              exact ⟨congrArg Value.bool (decide_eq_true (p := t.size < 4 ∨ x1.toNat < LO ∨ HI < x1.toNat ∨ x2.toNat < 128 ∨ 191 < x2.toNat ∨ x3.toNat < 128 ∨ 191 < x3.toNat) (by omega)).symm, below_drewNv ((Below.refl _ _).alloc (Nat.le_refl _) _) _⟩
            · have q0z : ¬ ((t.size : Int) < 4) := by omega
              have hz1 : (1 : Int) < (t.size : Int) := by omega
              have hp1 : 1 < t.size := by omega
              have hs1 := hq1 hp1
              have hz2 : (2 : Int) < (t.size : Int) := by omega
              have hp2 : 2 < t.size := by omega
              have hs2 := hq2 hp2
              have hz3 : (3 : Int) < (t.size : Int) := by omega
              have hp3 : 3 < t.size := by omega
              have hs3 := hq3 hp3
              clear hq1 hq2 hq3
              by_cases q1 : x1.toNat < LO
              · have q1z : (x1.toNat : Int) < (LO : Int) := by omega
                go_big_quiet_o (fail)
                go_wp2
                go_meet
                exact ⟨congrArg Value.bool (decide_eq_true (p := t.size < 4 ∨ x1.toNat < LO ∨ HI < x1.toNat ∨ x2.toNat < 128 ∨ 191 < x2.toNat ∨ x3.toNat < 128 ∨ 191 < x3.toNat) (by omega)).symm, below_drewNv ((Below.refl _ _).alloc (Nat.le_refl _) _) _⟩
              · have q1z : ¬ ((x1.toNat : Int) < (LO : Int)) := by omega
                by_cases q2 : HI < x1.toNat
                · have q2z : (HI : Int) < (x1.toNat : Int) := by omega
                  go_big_quiet_o (fail)
                  go_wp2
                  go_meet
                  exact ⟨congrArg Value.bool (decide_eq_true (p := t.size < 4 ∨ x1.toNat < LO ∨ HI < x1.toNat ∨ x2.toNat < 128 ∨ 191 < x2.toNat ∨ x3.toNat < 128 ∨ 191 < x3.toNat) (by omega)).symm, below_drewNv ((Below.refl _ _).alloc (Nat.le_refl _) _) _⟩
                · have q2z : ¬ ((HI : Int) < (x1.toNat : Int)) := by omega
                  by_cases q3 : x2.toNat < 128
                  · have q3z : (x2.toNat : Int) < 128 := by omega
                    go_big_quiet_o (fail)
                    go_wp2
                    go_meet
                    exact ⟨congrArg Value.bool (decide_eq_true (p := t.size < 4 ∨ x1.toNat < LO ∨ HI < x1.toNat ∨ x2.toNat < 128 ∨ 191 < x2.toNat ∨ x3.toNat < 128 ∨ 191 < x3.toNat) (by omega)).symm, below_drewNv ((Below.refl _ _).alloc (Nat.le_refl _) _) _⟩
                  · have q3z : ¬ ((x2.toNat : Int) < 128) := by omega
                    by_cases q4 : 191 < x2.toNat
                    · have q4z : (191 : Int) < (x2.toNat : Int) := by omega
                      go_big_quiet_o (fail)
                      go_wp2
                      go_meet
                      exact ⟨congrArg Value.bool (decide_eq_true (p := t.size < 4 ∨ x1.toNat < LO ∨ HI < x1.toNat ∨ x2.toNat < 128 ∨ 191 < x2.toNat ∨ x3.toNat < 128 ∨ 191 < x3.toNat) (by omega)).symm, below_drewNv ((Below.refl _ _).alloc (Nat.le_refl _) _) _⟩
                    · have q4z : ¬ ((191 : Int) < (x2.toNat : Int)) := by omega
                      by_cases q5 : x3.toNat < 128
                      · have q5z : (x3.toNat : Int) < 128 := by omega
                        go_big_quiet_o (fail)
                        go_wp2
                        go_meet
                        exact ⟨congrArg Value.bool (decide_eq_true (p := t.size < 4 ∨ x1.toNat < LO ∨ HI < x1.toNat ∨ x2.toNat < 128 ∨ 191 < x2.toNat ∨ x3.toNat < 128 ∨ 191 < x3.toNat) (by omega)).symm, below_drewNv ((Below.refl _ _).alloc (Nat.le_refl _) _) _⟩
                      · have q5z : ¬ ((x3.toNat : Int) < 128) := by omega
                        by_cases q6 : 191 < x3.toNat
                        · have q6z : (191 : Int) < (x3.toNat : Int) := by omega
                          go_big_quiet_o (fail)
                          go_wp2
                          go_meet
                          exact ⟨congrArg Value.bool (decide_eq_true (p := t.size < 4 ∨ x1.toNat < LO ∨ HI < x1.toNat ∨ x2.toNat < 128 ∨ 191 < x2.toNat ∨ x3.toNat < 128 ∨ 191 < x3.toNat) (by omega)).symm, below_drewNv ((Below.refl _ _).alloc (Nat.le_refl _) _) _⟩
                        · have q6z : ¬ ((191 : Int) < (x3.toNat : Int)) := by omega
                          go_big_quiet_o (fail)
                          go_wp2
                          go_meet
                          exact ⟨congrArg Value.bool (decide_eq_false (p := t.size < 4 ∨ x1.toNat < LO ∨ HI < x1.toNat ∨ x2.toNat < 128 ∨ 191 < x2.toNat ∨ x3.toNat < 128 ∨ 191 < x3.toNat) (by omega)).symm, below_drewNv ((Below.refl _ _).alloc (Nat.le_refl _) _) _⟩
          case rest =>
            obtain ⟨rfl, hbr⟩ := hcut
            have hbc := hbw.trans (hbr.mono hbw.size)
            by_cases hb : t.size < 4 ∨ x1.toNat < LO ∨ HI < x1.toNat ∨ x2.toNat < 128 ∨ 191 < x2.toNat ∨ x3.toNat < 128 ∨ 191 < x3.toNat
            · have hbd : decide (t.size < 4 ∨ x1.toNat < LO ∨ HI < x1.toNat ∨ x2.toNat < 128 ∨ 191 < x2.toNat ∨ x3.toNat < 128 ∨ 191 < x3.toNat) = true := decide_eq_true hb
              rw [if_pos hb] at hlead
              go_wp2
              all_goals (go_ret; exact ⟨by first | rfl | rw [hlead], hbc⟩)
            · have hbd : decide (t.size < 4 ∨ x1.toNat < LO ∨ HI < x1.toNat ∨ x2.toNat < 128 ∨ 191 < x2.toNat ∨ x3.toNat < 128 ∨ 191 < x3.toNat) = false := decide_eq_false hb
              rw [if_neg hb] at hlead
              obtain ⟨o1, e1, hB1⟩ := tail_at (HBt.out.below hbr) 4 (by omega)
              go_wp2
              go_roundg g'
              case measure => omega
              case rel => exact ⟨hbc, t.extract 4 t.size, o1, by rw [Lib.ext_size], hB1, by rw [Lib.ext_list, hlead], by rw [Lib.ext_size]; omega, by rw [Lib.ext_size]; omega⟩
        · -- 'default: return false'
          have e2 : ¬ ((X : Int) % 8 = 2) := by omega
          have e3 : ¬ ((X : Int) % 8 = 3) := by omega
          have e4 : ¬ ((X : Int) % 8 = 4) := by omega
          have e2b : (((X : Int) % 8) == 2) = false := by simp; omega
          have e3b : (((X : Int) % 8) == 3) = false := by simp; omega
          have e4b : (((X : Int) % 8) == 4) = false := by simp; omega
          simp only [Lib.checkN, s2, s3, s4, if_false] at hlead
          go_wp2
          all_goals (go_ret; exact ⟨by first | rfl | rw [hlead], hbw.alloc hbw.size _⟩)
    · have h0z : ¬ ((0 : Int) < (t.size : Int)) := by omega
      have ht0 : t.data.toList = [] := List.eq_nil_of_length_eq_zero (by rw [← Lib.size_eq]; omega)
      rw [ht0, Lib.validD_nil] at hv
      subst hv
      clear hBt
      go_wp2
      go_ret
      exact ⟨rfl, hbw⟩
end Go.Proofs.YtcjomjhaimlbmaaDoor
