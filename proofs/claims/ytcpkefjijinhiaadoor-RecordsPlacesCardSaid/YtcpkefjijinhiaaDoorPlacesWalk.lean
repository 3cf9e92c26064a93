/-
  The walk of the statement RecordsPlaces: it returns true. Conditions: the numbers lie in memory; the first variable of the package holds a number; dialect's contract is a hypothesis.
-/
import Derived.Test.YtcpkefjijinhiaaDoorPK
import Derived.Test.YtcpkefjijinhiaaDoorSpoil
import Derived.Test.YtcpkefjijinhiaaDoorAwake
import Derived.Deep.RegionLaw
import Derived.BigQuiet
set_option linter.unusedVariables false
set_option linter.unusedSimpArgs false
namespace Go.Proofs.YtcpkefjijinhiaaDoor
open Go Go.Proofs Go.RowKit Go.Lib

/-- What is kept while the statement's loops run. -/
structure PKt (w0 : World) (xk g c : Nat) (A : Option Addr) (L : List Int) (D Q : UInt8) (m : Int) (B : Nat) (v : Value) (rs : List Rec) (W : World) : Prop where
  k : MK w0 xk g c A L D Q m W
  r : RecRow W B v rs
theorem PKt.below {w0 W W' : World} {xk g c : Nat} {A : Option Addr} {L : List Int} {D Q : UInt8} {m : Int} {B : Nat} {v : Value} {rs : List Rec} (h : PKt w0 xk g c A L D Q m B v rs W) (k : Below W.heap.size W W') : PKt w0 xk g c A L D Q m B v rs W' :=
  ⟨h.k.below k, h.r.under k⟩
theorem own_len {w : World} {B e z n : Nat} {v : Value} {xs : List Value} (h : w.ownsRow B e z v n xs) : n ≤ 9223372036854775807 := by
  rcases h.2 with ⟨_, h0⟩ | ⟨g, cap, cur, hv, hB, hg, h1, h2, _⟩
  · omega
  · unfold maxLen at h2
    omega
theorem RecRow.len {w : World} {B : Nat} {v : Value} {rs : List Rec} (h : RecRow w B v rs) : rs.length ≤ 9223372036854775807 := by
  obtain ⟨ps, hl, ho, _⟩ := h
  have := own_len ho
  omega
set_option maxHeartbeats 8000000 in
set_option maxRecDepth 100000 in
theorem places_any (cD : DialAll) (m : Int) (A : Option Addr) (L : List Int) (c : Nat) (w : World) (hI : IntsIn w w.heap.size A L) (hm : w.cell? ⟨0, 0, none⟩ = some (.int .i64 m)) (hw0 : 0 < w.heap.size) :
    Calls Tryd.prog 7 #[.slice A L.length c] w fun e w' => e = .returned (.bool true) ∧ Below w.heap.size w w' := by
  have cL := light_any A L.length c
  by_cases hl : L.length ≤ 400
  · rw [decide_eq_true hl] at cL
    have cR := roll_any A L c hl w hI
    obtain ⟨g, hg⟩ : ∃ g, w.heap.size = g := ⟨_, rfl⟩
    have CR := hid cR
    have HM := hid hm
    clear cR hI hm
    go_enter Tryd.func7, Tryd.ntmps7
    go_wp2_with fail
    refine (cL _).mono ?_
    rintro e w' ⟨rfl, rfl⟩
    go_wp2_with fail
    refine CR.out.mono ?_
    rintro e w1 ⟨rfl, hd1, hb1⟩
    rw [hg] at hd1 ⊢
    have hgle : w.heap.size ≤ g := by omega
    clear hg
    have hsz1 := hb1.size
    have hB1 := hid hb1
    have cX := cD g c 0 A L w1 hd1
    have CX := hid cX
    have hg1 := hd1.lt
    clear hd1 hb1 cL cX CR
    go_wp2_with fail
    refine CX.out.mono ?_
    rintro e w2 ⟨⟨D, Q, rfl, hv⟩, ⟨k2, hd2⟩, hP2⟩
    have hsz2 := hP2.size
    have hza : (w2.alloc (.cells #[.int .u8 D.toNat, .int .u8 Q.toNat] 23)).heap[w2.heap.size]? = some (.cells #[.int .u8 D.toNat, .int .u8 Q.toNat] 23 (0, 0)) := heap_alloc_new w2 _
    have hba : Below w2.heap.size w2 (w2.alloc (.cells #[.int .u8 D.toNat, .int .u8 Q.toNat] 23)) := (Below.refl _ w2).alloc (Nat.le_refl _) _
    have hb2 : Below w.heap.size w w2 := hB1.out.trans (hP2.toBelow (B' := w.heap.size) hsz1 hgle)
    have hbx : Below w.heap.size w (w2.alloc (.cells #[.int .u8 D.toNat, .int .u8 Q.toNat] 23)) := hb2.trans (hba.mono hb2.size)
    have hk : MK w w2.heap.size g c A L D Q m (w2.alloc (.cells #[.int .u8 D.toNat, .int .u8 Q.toNat] 23)) :=
      ⟨cell_at hza 0, cell_at hza 1, by simp, (hbx.cell (p := ⟨0, 0, none⟩) hw0).trans HM.out, ⟨k2, hd2.below hba hd2.lt⟩, hbx, by have := hd2.lt; omega, hgle, hw0⟩
    have HK := hid hk
    have HV := hid hv
    unfold dialV
    clear hP2 hd2 hza hba hb2 hbx hk hv CX hB1 HM
    obtain ⟨xk, hxk⟩ : ∃ xk, w2.heap.size = xk := ⟨_, rfl⟩
    rw [hxk] at HK
    go_upto_region 5 with fail
    clear hxk
    generalize w2.alloc (.cells #[.int .u8 D.toNat, .int .u8 Q.toNat] 23) = w3 at HK ⊢
    have cA : ∀ W, MK w xk g c A L D Q m W → Calls Tryd.prog 9 #[] W fun e w' => e = .returned (.bool true) ∧ MK w xk g c A L D Q m w' := fun W h =>
      (awake_any m W h.m0 h.m1).mono fun e w' ⟨h1, h2⟩ => ⟨h1, h.below h2⟩
    have cF : ∀ W, MK w xk g c A L D Q m W → Calls Tryd.prog 19 #[.pointer (some ⟨g, 0, none⟩)] W fun e w' => (∃ (Av : Option Addr) (cv : Nat) (ls : List (List Str)), e = .returned (.slice Av (List.length ls) cv) ∧ Hid (RowsIn w' (fun b => b < w'.heap.size) Av ls ∧ ls.length ≤ 5 ∧ ∀ l ∈ ls, MadeRow l)) ∧ MK w xk g c A L D Q m w' := fun W h => by
      obtain ⟨k', hd⟩ := h.dice
      refine (fields_any g c k' A L W hd).mono ?_
      rintro e w' ⟨⟨v, vs, ls, rfl, hov, hsr, hl5, hgood⟩, ⟨k2, hd2⟩, hP⟩
      obtain ⟨Av, cv, rfl, _, _, hrows⟩ := rows_rowsIn hov hsr
      refine ⟨⟨Av, cv, ls, rfl, hid ⟨?_, hl5, hgood⟩⟩, h.played hd2 hP⟩
      exact hrows.imp (fun x => x) fun ⟨b, off, h1, h2, h3⟩ => ⟨b, off, h1, h2.2, fun j l hj => by
        obtain ⟨A', c', k1, k2, k3, k4⟩ := h3 j l hj
        exact ⟨A', c', k1, k2, k3, k4.mono fun b hb => hb.2⟩⟩
    have cO : ∀ (Av : Option Addr) (cv : Nat) (ls : List (List Str)) (W : World), Hid (RowsIn W (fun b => b < W.heap.size) Av ls ∧ ls.length ≤ 5 ∧ ∀ l ∈ ls, MadeRow l) → MK w xk g c A L D Q m W →
        Calls Tryd.prog 18 #[.slice Av (List.length ls) cv, .agg #[.int .u8 D.toNat, .int .u8 Q.toNat]] W fun e w' => (∃ (F : ByteArray) (err : Int), e = .returned (.tuple #[.string F, .int .i64 err]) ∧ Hid (F.size ≤ 65536)) ∧ MK w xk g c A L D Q m w' := fun Av cv ls W hr h => by
      have h1 := wgtRows_made ls hr.out.2.2
      have h2 := hr.out.2.1
      refine (refFormat_any Av ls cv D Q W hr.out.1 (by omega) (by omega)).mono ?_
      rintro e w' ⟨rfl, hb⟩
      exact ⟨⟨_, _, rfl, hid (by rw [Lib.size_eq]; exact fmtM_len D Q ls)⟩, h.below hb⟩
    have cS : ∀ (F : ByteArray) (W : World), Hid (F.size ≤ 65536) → MK w xk g c A L D Q m W → Calls Tryd.prog 20 #[.pointer (some ⟨g, 0, none⟩), .string F, .string ⟨#[44, 59, 34, 39, 10, 13, 35, 97]⟩] W fun e w' => (∃ S2 : ByteArray, e = .returned (.string S2) ∧ Hid (S2.size ≤ 65537)) ∧ MK w xk g c A L D Q m w' := fun F W hF h => by
      obtain ⟨k', hd⟩ := h.dice
      refine (spoil_any g c k' A L F ⟨#[44, 59, 34, 39, 10, 13, 35, 97]⟩ (by have := hF.out; omega) (by decide) (by decide) W hd).mono ?_
      rintro e w' ⟨⟨l, rfl, hll⟩, ⟨k2, hd2⟩, hP⟩
      exact ⟨⟨_, rfl, hid (by have := hF.out; show l.length ≤ 65537; omega)⟩, h.played hd2 hP⟩
    have cOn : ∀ W, MK w xk g c A L D Q m W → Calls Tryd.prog 24 #[.pointer (some ⟨g, 0, none⟩), .int .i64 2] W fun e w' => (∃ r : Bool, e = .returned (.bool r)) ∧ MK w xk g c A L D Q m w' := fun W h => by
      obtain ⟨k', hd⟩ := h.dice
      refine (one_any g c k' A L 2 (by omega) (by omega) W hd).mono ?_
      rintro e w' ⟨h1, ⟨k2, hd2⟩, hR⟩
      exact ⟨h1, h.played hd2 ⟨hR.os, hR.tape, hR.output, Nat.le_of_eq hR.size.symm, fun k hk hn => hR.block k hn⟩⟩
    clear cD
    have hk := HK.out.below (below_drewNg w3 1 _)
    change MK w xk g c A L D Q m w3.drew at hk
    have h0 := hk.d0
    have h1 := hk.d1
    have HA := hid cA
    have HS := hid cS
    have HO := hid cOn
    clear cA cS cOn
    go_region_with (first
      | (go_at_call 19; refine (cF _ ?_).mono ?_; assumption; rintro e w' ⟨⟨Av, cv, ls, rfl, hrows⟩, hk'⟩; have h0 := hk'.d0; have h1 := hk'.d1)
      | (go_at_call 18; refine (cO _ _ _ _ ?_ ?_).mono ?_; assumption; assumption; rintro e w' ⟨⟨F, err, rfl, hF⟩, hk'⟩; have h0 := hk'.d0; have h1 := hk'.d1))
    all_goals
      clear cF cO HK hk
      have HK := hid hk'
      clear hk' h0 h1
      go_wp2_with fail
      refine (HO.out _ HK.out).mono ?_
      rintro e w5 ⟨⟨r, rfl⟩, hk5⟩
      have HK5 := hid hk5
      clear hk5 HK HO
      cases r with
      | false =>
        have hF0 : Hid (F.size ≤ 65537) := hid (by have := hF.out; omega)
        obtain ⟨rs, hrs⟩ : ∃ rs, parseM D Q (lst F) = rs := ⟨_, rfl⟩
        have hpl := parseM_placed D Q (lst F)
        have cP := codeParse_any F D Q
        rw [hrs] at hpl cP
        obtain ⟨rs, ps⟩ := rs
        dsimp only at hpl
        unfold dialV at cP
        have PL := hid hpl
        have CP := hid cP
        clear hrs hpl cP
        have h0 := HK5.out.d0
        have h1 := HK5.out.d1
        go_wp2_with fail
        refine (CP.out _).mono ?_
        rintro e w6 ⟨hb6, v1, v2, rfl, hrec, hprob⟩
        obtain ⟨Am, cm, rfl⟩ := hrec.slice
        obtain ⟨Ap, cp, rfl⟩ := row_slice hprob
        dsimp only at hrec
        have hp6 : PKt w xk g c A L D Q m _ (.slice Am rs.length cm) rs w6 := ⟨HK5.out.below hb6, hrec⟩
        have hrl6 := hrec.len
        generalize w5.heap.size = B at hp6
        have HP6 := hid hp6
        clear hrec hprob hb6 hp6 CP h0 h1
        go_wp2
        go_loopw [9, 10, 11, 12] (fun iv _ _ _ wr => ∃ i : Nat, iv = .int .i64 (i : Int) ∧ i ≤ rs.length ∧ Hid (PKt w xk g c A L D Q m B (.slice Am rs.length cm) rs wr)) (fun iv _ _ _ _ => rs.length - (RowKit.intOf iv).toNat)
        case atStart => exact ⟨0, rfl, Nat.zero_le _, HP6⟩
        case round =>
          obtain ⟨i, rfl, hi, hP⟩ := hrel
          by_cases hlt : i < rs.length
          · have hltz : (i : Int) < (rs.length : Int) := by omega
            obtain ⟨r, hr⟩ : ∃ r, rs[i]? = some r := ⟨_, List.getElem?_eq_getElem hlt⟩
            have hplr := PL.out r (List.mem_of_getElem? hr)
            obtain ⟨rl, fs⟩ := r
            have HR := hid hr
            have HPR := hid hplr
            clear hr hplr HP6
            go_wp2
            go_loopw [10, 11, 12] (fun kv _ _ wr2 => ∃ k : Nat, kv = .int .i64 (k : Int) ∧ k ≤ fs.length ∧ Hid (PKt w xk g c A L D Q m B (.slice Am rs.length cm) rs wr2)) (fun kv _ _ _ => fs.length - (RowKit.intOf kv).toNat)
            case atStart => exact ⟨0, rfl, Nat.zero_le _, hP⟩
            case round =>
              clear hP
              obtain ⟨k, rfl, hk, hP⟩ := hrel
              obtain ⟨g1, cap1, Af, cf, hv, a1, a2, hfr⟩ := hP.out.r.cell HR.out
              injection hv with hA1 hA1b hc1
              subst hA1 hc1
              clear hA1b
              dsimp only at a1 a2 hfr
              have hfl := own_len hfr
              by_cases hkl : k < fs.length
              · have hklz : (k : Int) < (fs.length : Int) := by omega
                obtain ⟨f, hfk⟩ : ∃ f, fs[k]? = some f := ⟨_, List.getElem?_eq_getElem hkl⟩
                obtain ⟨g2, cap2, hv, b0, b1, b2⟩ := hfr.cell hfk
                injection hv with hA2 hA2b hc2
                subst hA2 hc2
                clear hA2b
                obtain ⟨a, ha, hbeg, hrl, hc1, hc2, hfirst⟩ := field_place (k := k) HPR.out hfk
                obtain ⟨ft, fc, fq⟩ := f
                dsimp only at b0 b1 b2 hfirst hc1 hc2 hbeg hrl
                unfold strV at b0
                have htl : (⟨ft.toArray⟩ : ByteArray).size = ft.length := rfl
                rw [← htl] at hfirst
                generalize (⟨ft.toArray⟩ : ByteArray) = T at b0 hfirst
                clear htl
                have hsS : F.size ≤ 65537 := hF0.out
                have cB := fun W => begin_any F rl (by omega) (by omega) W
                rw [hbeg] at cB
                have CB := hid cB
                have hbn : Below wr.heap.size wr (wr.alloc (.cells #[.string T, .int .i64 fc, .bool fq] 50)) := (Below.refl _ wr).alloc (Nat.le_refl _) _
                have hp2 := hP.out.below hbn
                have hza : (wr.alloc (.cells #[.string T, .int .i64 fc, .bool fq] 50)).heap[wr.heap.size]? = some (.cells #[.string T, .int .i64 fc, .bool fq] 50 (0, 0)) := heap_alloc_new wr _
                have z0 := cell_at hza 0
                have z1 := cell_at hza 1
                have z2 := cell_at hza 2
                simp only [List.getElem?_toArray, List.getElem?_cons_zero, List.getElem?_cons_succ] at z0 z1 z2
                have y1 := hp2.k.d1
                obtain ⟨g3, cap3, Af3, cf3, hv, u1, -, -⟩ := hp2.r.cell HR.out
                injection hv with hA3 hA3b hc3
                obtain rfl : g3 = g1 := by injection hA3 with hA3; injection hA3 with hA3; omega
                clear hA3 hA3b hc3
                dsimp only at u1
                have HP2 := hid hp2
                clear hza hbn hp2 hfr hfk cB hbeg hP hrl
                have e1 : IntKind.i64.wrap ((a : Int) + fc) = (a : Int) + fc := IntWalk.i64_in _ (by omega)
                by_cases hk0 : k = 0
                · obtain ⟨f1, f2, f3⟩ := hfirst hk0
                  have hkz : ((k : Int) == 0) = true := by simp; omega
                  have hkp : ¬ (0 : Int) < (k : Int) := by omega
                  have hfz : (fc != 1) = false := by simp [f1]
                  have hfp : ¬ fc < 1 := by omega
                  have e2 : IntKind.i64.wrap ((a : Int) + fc - 1) = (a : Int) := by rw [f1]; rw [show (a : Int) + 1 - 1 = (a : Int) by omega]; exact IntWalk.i64_in _ (by omega)
                  have hnl : ¬ (F.size : Int) < (a : Int) := by omega
                  have haz : (a : Int) < (F.size : Int) := by omega
                  clear hfirst f1 hk0
                  cases fq with
                  | true =>
                    have hsq := f2 rfl
                    have hx : (F[a]'ha).toNat = Q.toNat := by
                      rw [List.getElem?_eq_getElem (by rw [← Lib.size_eq]; exact ha)] at hsq
                      exact congrArg UInt8.toNat (Option.some.inj hsq)
                    have hne : ((a : Int) == (F.size : Int)) = false := by simp; omega
                    clear f2 f3 hsq
                    go_upto_region 18 with fail
                    go_quiet ((go_at_call 25; with_reducible refine Calls.quiet_of (CB.out _)))
                    go_upto_region 20 with fail
                    go_quiet (fail)
                    go_wp2
                    go_roundw
                    case rel => exact ⟨k + 1, by go_num, by omega, hid (HP2.out.below (below_drewNg _ _ _))⟩
                    case measure => simp [RowKit.intOf]; omega
                  | false =>
                    obtain ⟨f4, f5⟩ := f3 rfl
                    obtain ⟨h, hh⟩ : ∃ h, a + T.size = h := ⟨_, rfl⟩
                    rw [hh] at f4 f5
                    have e3 : IntKind.i64.wrap ((a : Int) + (T.size : Int)) = (h : Int) := by rw [show (a : Int) + (T.size : Int) = (h : Int) by omega]; exact IntWalk.i64_in _ (by omega)
                    have hnh : ¬ (F.size : Int) < (h : Int) := by omega
                    have hah : a ≤ h := by omega
                    clear f2 f3 hh
                    go_upto_region 18 with fail
                    go_quiet ((go_at_call 25; with_reducible refine Calls.quiet_of (CB.out _)))
                    go_upto_region 20 with fail
                    go_quiet (fail)
                    go_wp2
                    go_roundw
                    case rel => exact ⟨k + 1, by go_num, by omega, hid (HP2.out.below (below_drewNg _ _ _))⟩
                    case measure => simp [RowKit.intOf]; omega
                · have hkz : ((k : Int) == 0) = false := by simp; omega
                  have hkp : (0 : Int) < (k : Int) := by omega
                  have hfp : ¬ fc < 1 := by omega
                  obtain ⟨t, ht⟩ : ∃ t : Int, (a : Int) + fc - 1 = t := ⟨_, rfl⟩
                  have e2 : IntKind.i64.wrap ((a : Int) + fc - 1) = t := by rw [← ht]; exact IntWalk.i64_in _ (by omega)
                  clear hfirst ht hk0
                  go_upto_region 18 with fail
                  go_quiet ((go_at_call 25; with_reducible refine Calls.quiet_of (CB.out _)))
                  go_wp2
                  go_roundw
                  case rel => exact ⟨k + 1, by go_num, by omega, hid (HP2.out.below (below_drewN (Below.refl _ _) _))⟩
                  case measure => simp [RowKit.intOf]; omega
              · have hklz : ¬ (k : Int) < (fs.length : Int) := by omega
                clear hfr
                go_wp2
                go_roundw
                case rel => exact ⟨i + 1, by go_num, by omega, hP⟩
                case measure => simp [RowKit.intOf]; omega
          · have hltz : ¬ (i : Int) < (rs.length : Int) := by omega
            go_wp2_with fail
            refine (HA.out _ hP.out.k).mono ?_
            rintro e w7 ⟨rfl, hk7⟩
            go_wp2
            go_ret
            exact ⟨rfl, hk7.b⟩
      | true =>
        go_wp2_with fail
        refine (HS.out _ _ hF HK5.out).mono ?_
        rintro e w8 ⟨⟨S2, rfl, hS2⟩, hk8⟩
        have HK8 := hid hk8
        clear hk8 HK5
        obtain ⟨rs, hrs⟩ : ∃ rs, parseM D Q (lst S2) = rs := ⟨_, rfl⟩
        have hpl := parseM_placed D Q (lst S2)
        have cP := codeParse_any S2 D Q
        rw [hrs] at hpl cP
        obtain ⟨rs, ps⟩ := rs
        dsimp only at hpl
        unfold dialV at cP
        have PL := hid hpl
        have CP := hid cP
        clear hrs hpl cP
        have h0 := HK8.out.d0
        have h1 := HK8.out.d1
        go_wp2_with fail
        refine (CP.out _).mono ?_
        rintro e w6 ⟨hb6, v1, v2, rfl, hrec, hprob⟩
        obtain ⟨Am, cm, rfl⟩ := hrec.slice
        obtain ⟨Ap, cp, rfl⟩ := row_slice hprob
        dsimp only at hrec
        have hp6 : PKt w xk g c A L D Q m _ (.slice Am rs.length cm) rs w6 := ⟨HK8.out.below hb6, hrec⟩
        have hrl6 := hrec.len
        generalize w8.heap.size = B at hp6
        have HP6 := hid hp6
        clear hrec hprob hb6 hp6 CP h0 h1
        go_wp2
        go_loopw [9, 10, 11, 12] (fun iv _ _ _ wr => ∃ i : Nat, iv = .int .i64 (i : Int) ∧ i ≤ rs.length ∧ Hid (PKt w xk g c A L D Q m B (.slice Am rs.length cm) rs wr)) (fun iv _ _ _ _ => rs.length - (RowKit.intOf iv).toNat)
        case atStart => exact ⟨0, rfl, Nat.zero_le _, HP6⟩
        case round =>
          obtain ⟨i, rfl, hi, hP⟩ := hrel
          by_cases hlt : i < rs.length
          · have hltz : (i : Int) < (rs.length : Int) := by omega
            obtain ⟨r, hr⟩ : ∃ r, rs[i]? = some r := ⟨_, List.getElem?_eq_getElem hlt⟩
            have hplr := PL.out r (List.mem_of_getElem? hr)
            obtain ⟨rl, fs⟩ := r
            have HR := hid hr
            have HPR := hid hplr
            clear hr hplr HP6
            go_wp2
            go_loopw [10, 11, 12] (fun kv _ _ wr2 => ∃ k : Nat, kv = .int .i64 (k : Int) ∧ k ≤ fs.length ∧ Hid (PKt w xk g c A L D Q m B (.slice Am rs.length cm) rs wr2)) (fun kv _ _ _ => fs.length - (RowKit.intOf kv).toNat)
            case atStart => exact ⟨0, rfl, Nat.zero_le _, hP⟩
            case round =>
              clear hP
              obtain ⟨k, rfl, hk, hP⟩ := hrel
              obtain ⟨g1, cap1, Af, cf, hv, a1, a2, hfr⟩ := hP.out.r.cell HR.out
              injection hv with hA1 hA1b hc1
              subst hA1 hc1
              clear hA1b
              dsimp only at a1 a2 hfr
              have hfl := own_len hfr
              by_cases hkl : k < fs.length
              · have hklz : (k : Int) < (fs.length : Int) := by omega
                obtain ⟨f, hfk⟩ : ∃ f, fs[k]? = some f := ⟨_, List.getElem?_eq_getElem hkl⟩
                obtain ⟨g2, cap2, hv, b0, b1, b2⟩ := hfr.cell hfk
                injection hv with hA2 hA2b hc2
                subst hA2 hc2
                clear hA2b
                obtain ⟨a, ha, hbeg, hrl, hc1, hc2, hfirst⟩ := field_place (k := k) HPR.out hfk
                obtain ⟨ft, fc, fq⟩ := f
                dsimp only at b0 b1 b2 hfirst hc1 hc2 hbeg hrl
                unfold strV at b0
                have htl : (⟨ft.toArray⟩ : ByteArray).size = ft.length := rfl
                rw [← htl] at hfirst
                generalize (⟨ft.toArray⟩ : ByteArray) = T at b0 hfirst
                clear htl
                have hsS : S2.size ≤ 65537 := hS2.out
                have cB := fun W => begin_any S2 rl (by omega) (by omega) W
                rw [hbeg] at cB
                have CB := hid cB
                have hbn : Below wr.heap.size wr (wr.alloc (.cells #[.string T, .int .i64 fc, .bool fq] 50)) := (Below.refl _ wr).alloc (Nat.le_refl _) _
                have hp2 := hP.out.below hbn
                have hza : (wr.alloc (.cells #[.string T, .int .i64 fc, .bool fq] 50)).heap[wr.heap.size]? = some (.cells #[.string T, .int .i64 fc, .bool fq] 50 (0, 0)) := heap_alloc_new wr _
                have z0 := cell_at hza 0
                have z1 := cell_at hza 1
                have z2 := cell_at hza 2
                simp only [List.getElem?_toArray, List.getElem?_cons_zero, List.getElem?_cons_succ] at z0 z1 z2
                have y1 := hp2.k.d1
                obtain ⟨g3, cap3, Af3, cf3, hv, u1, -, -⟩ := hp2.r.cell HR.out
                injection hv with hA3 hA3b hc3
                obtain rfl : g3 = g1 := by injection hA3 with hA3; injection hA3 with hA3; omega
                clear hA3 hA3b hc3
                dsimp only at u1
                have HP2 := hid hp2
                clear hza hbn hp2 hfr hfk cB hbeg hP hrl
                have e1 : IntKind.i64.wrap ((a : Int) + fc) = (a : Int) + fc := IntWalk.i64_in _ (by omega)
                by_cases hk0 : k = 0
                · obtain ⟨f1, f2, f3⟩ := hfirst hk0
                  have hkz : ((k : Int) == 0) = true := by simp; omega
                  have hkp : ¬ (0 : Int) < (k : Int) := by omega
                  have hfz : (fc != 1) = false := by simp [f1]
                  have hfp : ¬ fc < 1 := by omega
                  have e2 : IntKind.i64.wrap ((a : Int) + fc - 1) = (a : Int) := by rw [f1]; rw [show (a : Int) + 1 - 1 = (a : Int) by omega]; exact IntWalk.i64_in _ (by omega)
                  have hnl : ¬ (S2.size : Int) < (a : Int) := by omega
                  have haz : (a : Int) < (S2.size : Int) := by omega
                  clear hfirst f1 hk0
                  cases fq with
                  | true =>
                    have hsq := f2 rfl
                    have hx : (S2[a]'ha).toNat = Q.toNat := by
                      rw [List.getElem?_eq_getElem (by rw [← Lib.size_eq]; exact ha)] at hsq
                      exact congrArg UInt8.toNat (Option.some.inj hsq)
                    have hne : ((a : Int) == (S2.size : Int)) = false := by simp; omega
                    clear f2 f3 hsq
                    go_upto_region 18 with fail
                    go_quiet ((go_at_call 25; with_reducible refine Calls.quiet_of (CB.out _)))
                    go_upto_region 20 with fail
                    go_quiet (fail)
                    go_wp2
                    go_roundw
                    case rel => exact ⟨k + 1, by go_num, by omega, hid (HP2.out.below (below_drewNg _ _ _))⟩
                    case measure => simp [RowKit.intOf]; omega
                  | false =>
                    obtain ⟨f4, f5⟩ := f3 rfl
                    obtain ⟨h, hh⟩ : ∃ h, a + T.size = h := ⟨_, rfl⟩
                    rw [hh] at f4 f5
                    have e3 : IntKind.i64.wrap ((a : Int) + (T.size : Int)) = (h : Int) := by rw [show (a : Int) + (T.size : Int) = (h : Int) by omega]; exact IntWalk.i64_in _ (by omega)
                    have hnh : ¬ (S2.size : Int) < (h : Int) := by omega
                    have hah : a ≤ h := by omega
                    clear f2 f3 hh
                    go_upto_region 18 with fail
                    go_quiet ((go_at_call 25; with_reducible refine Calls.quiet_of (CB.out _)))
                    go_upto_region 20 with fail
                    go_quiet (fail)
                    go_wp2
                    go_roundw
                    case rel => exact ⟨k + 1, by go_num, by omega, hid (HP2.out.below (below_drewNg _ _ _))⟩
                    case measure => simp [RowKit.intOf]; omega
                · have hkz : ((k : Int) == 0) = false := by simp; omega
                  have hkp : (0 : Int) < (k : Int) := by omega
                  have hfp : ¬ fc < 1 := by omega
                  obtain ⟨t, ht⟩ : ∃ t : Int, (a : Int) + fc - 1 = t := ⟨_, rfl⟩
                  have e2 : IntKind.i64.wrap ((a : Int) + fc - 1) = t := by rw [← ht]; exact IntWalk.i64_in _ (by omega)
                  clear hfirst ht hk0
                  go_upto_region 18 with fail
                  go_quiet ((go_at_call 25; with_reducible refine Calls.quiet_of (CB.out _)))
                  go_wp2
                  go_roundw
                  case rel => exact ⟨k + 1, by go_num, by omega, hid (HP2.out.below (below_drewN (Below.refl _ _) _))⟩
                  case measure => simp [RowKit.intOf]; omega
              · have hklz : ¬ (k : Int) < (fs.length : Int) := by omega
                clear hfr
                go_wp2
                go_roundw
                case rel => exact ⟨i + 1, by go_num, by omega, hP⟩
                case measure => simp [RowKit.intOf]; omega
          · have hltz : ¬ (i : Int) < (rs.length : Int) := by omega
            go_wp2_with fail
            refine (HA.out _ hP.out.k).mono ?_
            rintro e w7 ⟨rfl, hk7⟩
            go_wp2
            go_ret
            exact ⟨rfl, hk7.b⟩
  · rw [decide_eq_false hl] at cL
    have cA := awake_any m w hm hw0
    go_enter Tryd.func7, Tryd.ntmps7
    go_wp2_with fail
    refine (cL _).mono ?_
    rintro e w' ⟨rfl, rfl⟩
    go_wp2_with fail
    refine cA.mono ?_
    rintro e w' ⟨rfl, hb⟩
    go_wp2
    go_ret
    exact ⟨rfl, hb⟩
end Go.Proofs.YtcpkefjijinhiaaDoor
