/-
  The walk of the statement CharsetDetects: it returns true. Conditions: the bytes lie in memory as a slice; the library's two tables hold what their initialisers lay.
-/
import Derived.Test.YtcjomjhaimlbmaaDoorMendsWalk
import Derived.Test.YtcjomjhaimlbmaaDoorRDetect
import Derived.Test.YtcjomjhaimlbmaaDoorDetect
set_option linter.unusedVariables false
namespace Go.Proofs.YtcjomjhaimlbmaaDoor
open Go Go.Proofs Go.RowKit Go.Lib

/-- How the law finds out whether the mark is there. -/
theorem mark_cases {w : World} {B : Nat} {A : Option Addr} {l : List UInt8} (hb : BIn w B A l) :
    (l.length ≤ 2 ∧ markB l = false) ∨ ∃ (b off x y z : Nat), A = some ⟨b, off, none⟩ ∧ 3 ≤ l.length ∧ w.cell? ⟨b, off, none⟩ = some (.int .u8 (x : Int)) ∧ w.cell? ⟨b, off + 1, none⟩ = some (.int .u8 (y : Int)) ∧ w.cell? ⟨b, off + 2, none⟩ = some (.int .u8 (z : Int)) ∧
      ((x ≠ 239 ∧ markB l = false) ∨ (x = 239 ∧ y ≠ 187 ∧ markB l = false) ∨ (x = 239 ∧ y = 187 ∧ z ≠ 191 ∧ markB l = false) ∨ (x = 239 ∧ y = 187 ∧ z = 191 ∧ markB l = true)) := by
  by_cases h3 : 3 ≤ l.length
  · obtain ⟨b, off, rfl, _, hc0⟩ := hb.at_ (k := 0) (by omega)
    obtain ⟨b1, off1, e1, _, hc1⟩ := hb.at_ (k := 1) (by omega)
    obtain ⟨b2, off2, e2, _, hc2⟩ := hb.at_ (k := 2) (by omega)
    injection e1 with e1
    injection e1 with e1a e1b _
    injection e2 with e2
    injection e2 with e2a e2b _
    subst e1a e1b e2a e2b
    have hm := markB_long l _ _ _ h3 rfl rfl rfl
    refine .inr ⟨b, off, _, _, _, rfl, h3, hc0, hc1, hc2, ?_⟩
    rw [hm]
    generalize (l[0]'(by omega)).toNat = x
    generalize (l[1]'(by omega)).toNat = y
    generalize (l[2]'(by omega)).toNat = z
    by_cases hx : x = 239
    · by_cases hy : y = 187
      · by_cases hz : z = 191
        · exact .inr (.inr (.inr ⟨hx, hy, hz, by simp [hx, hy, hz]⟩))
        · exact .inr (.inr (.inl ⟨hx, hy, hz, by simp [hz]⟩))
      · exact .inr (.inl ⟨hx, hy, by simp [hy]⟩)
    · exact .inl ⟨hx, by simp [hx]⟩
  · exact .inl ⟨by omega, markB_short l (by omega)⟩

set_option maxHeartbeats 4000000 in
set_option maxRecDepth 100000 in
theorem detects_any (A : Option Addr) (l : List UInt8) (c : Nat) (hlc : l.length ≤ c) (hl63 : l.length ≤ 9223372036854775807) (w : World) (hb : BIn w w.heap.size A l) (hT : Lib.Utf8Tabs 0 1 w) :
    Calls Tryd.prog 5 #[.slice A l.length c] w fun e w' => e = .returned (.bool true) ∧ Below w.heap.size w w' := by
  have cA := detect_any A l c hlc hl63 w hb hT
  have hgood := det_good l
  obtain ⟨k, hk⟩ : ∃ k, detB l = k := ⟨_, rfl⟩
  have hkr := detB_range l
  rw [hk] at cA hgood hkr
  have CA := hid cA
  have HG := hid hgood
  have HK := hid hk
  have HB := hid hb
  have HT := hid hT
  clear cA hgood hk hb hT hlc
  go_enter Tryd.func5, Tryd.ntmps5
  go_wp2_with fail
  refine CA.out.mono ?_
  rintro e w1 ⟨rfl, hb1⟩
  have hbb1 : BIn w1 w1.heap.size A l := (HB.out.below hb1).mono hb1.size
  have hT1 : Lib.Utf8Tabs 0 1 w1 := Utf8Tabs_below HT.out hb1
  have cD := decode_any A l c k w1 hbb1 hT1
  have HB1 := hid hbb1
  have HT1 := hid hT1
  clear hbb1 hT1
  by_cases hbig : 65536 < l.length
  · have hbz : (65536 : Int) < (l.length : Int) := by omega
    have e2 : errD k l.length = 2 := by unfold errD; rw [if_pos hkr, if_pos hbig]
    rw [e2] at cD
    have CD := hid cD
    clear cD e2 hkr
    go_wp2_with fail
    refine CD.out.mono ?_
    rintro e w2 ⟨dv, rfl, hd, hb2⟩
    have hb02 : Below w.heap.size w w2 := hb1.trans (hb2.mono hb1.size)
    have hbb2 : BIn w2 w2.heap.size A l := (HB.out.below hb02).mono hb02.size
    have hT2 : Lib.Utf8Tabs 0 1 w2 := Utf8Tabs_below HT.out hb02
    have HB2 := hid hbb2
    have HT2 := hid hT2
    have H02 := hid hb02
    clear hd hb1 hb2 hb02 hbb2 hT2
    have hcase := mark_cases HB2.out
    rcases hcase with ⟨hl2, hm⟩ | ⟨b, off, x, y, z, rfl, h3, hc0, hc1, hc2, hm | hm | hm | hm⟩
    · exact absurd hl2 (by omega)
    · obtain ⟨hx, hm⟩ := hm
      have h2z : (2 : Int) < (l.length : Int) := by omega
      have h0z : (0 : Int) < (l.length : Int) := by omega
      have h1z : (1 : Int) < (l.length : Int) := by omega
      have ex : ((x : Int) == 239) = false := by simp; omega
      clear h3
      clear hm
      go_wp2_with fail
      refine (awake_any _ HT2.out).mono ?_
      rintro e w3 ⟨rfl, hb3⟩
      have hbb3 := (HB2.out.below hb3).mono hb3.size
      go_wp2_with fail
      refine (refDetect_any _ l c hl63 w3 hbb3).mono ?_
      rintro e w4 ⟨rfl, hb4⟩
      have hk' := HK.out
      go_wp2
      go_ret
      exact ⟨rfl, (H02.out.trans (hb3.mono H02.out.size)).trans (hb4.mono (Nat.le_trans H02.out.size hb3.size))⟩
    · obtain ⟨rfl, hy, hm⟩ := hm
      have h2z : (2 : Int) < (l.length : Int) := by omega
      have h0z : (0 : Int) < (l.length : Int) := by omega
      have h1z : (1 : Int) < (l.length : Int) := by omega
      have ey : ((y : Int) == 187) = false := by simp; omega
      clear h3
      clear hm
      go_wp2_with fail
      refine (awake_any _ HT2.out).mono ?_
      rintro e w3 ⟨rfl, hb3⟩
      have hbb3 := (HB2.out.below hb3).mono hb3.size
      go_wp2_with fail
      refine (refDetect_any _ l c hl63 w3 hbb3).mono ?_
      rintro e w4 ⟨rfl, hb4⟩
      have hk' := HK.out
      go_wp2
      go_ret
      exact ⟨rfl, (H02.out.trans (hb3.mono H02.out.size)).trans (hb4.mono (Nat.le_trans H02.out.size hb3.size))⟩
    · obtain ⟨rfl, rfl, hz, hm⟩ := hm
      have h2z : (2 : Int) < (l.length : Int) := by omega
      have h0z : (0 : Int) < (l.length : Int) := by omega
      have h1z : (1 : Int) < (l.length : Int) := by omega
      have ez : ((z : Int) == 191) = false := by simp; omega
      clear h3
      clear hm
      go_wp2_with fail
      refine (awake_any _ HT2.out).mono ?_
      rintro e w3 ⟨rfl, hb3⟩
      have hbb3 := (HB2.out.below hb3).mono hb3.size
      go_wp2_with fail
      refine (refDetect_any _ l c hl63 w3 hbb3).mono ?_
      rintro e w4 ⟨rfl, hb4⟩
      have hk' := HK.out
      go_wp2
      go_ret
      exact ⟨rfl, (H02.out.trans (hb3.mono H02.out.size)).trans (hb4.mono (Nat.le_trans H02.out.size hb3.size))⟩
    · obtain ⟨rfl, rfl, rfl, hm⟩ := hm
      have h2z : (2 : Int) < (l.length : Int) := by omega
      have h0z : (0 : Int) < (l.length : Int) := by omega
      have h1z : (1 : Int) < (l.length : Int) := by omega
      clear h3
      clear hm
      go_wp2_with fail
      refine (awake_any _ HT2.out).mono ?_
      rintro e w3 ⟨rfl, hb3⟩
      have hbb3 := (HB2.out.below hb3).mono hb3.size
      go_wp2_with fail
      refine (refDetect_any _ l c hl63 w3 hbb3).mono ?_
      rintro e w4 ⟨rfl, hb4⟩
      have hk' := HK.out
      go_wp2
      go_ret
      exact ⟨rfl, (H02.out.trans (hb3.mono H02.out.size)).trans (hb4.mono (Nat.le_trans H02.out.size hb3.size))⟩
  · have hbz : ¬ (65536 : Int) < (l.length : Int) := by omega
    have e2 : errD k l.length = 0 := errD_ok k _ hkr (by omega)
    have e3 : tokD k l = tokens k l := tokD_ok k l hkr (by omega)
    rw [e2, e3] at cD
    have CD := hid cD
    clear cD e2 e3 hkr
    have hcase : Hid (markB l = true) ∨ Hid (markB l = false ∧ dmgT (tokens k l) = []) := by
      cases hm : markB l with
      | true => exact .inl (hid rfl)
      | false => exact .inr (hid ⟨rfl, HG.out hm⟩)
    rcases hcase with HM | HM
    · have CDx := CD
      go_wp2_with fail
      refine CDx.out.mono ?_
      rintro e w2 ⟨dv, rfl, hd, hb2⟩
      obtain ⟨A2, cap2, rfl, hcap2⟩ := hd.len
      have hb02 : Below w.heap.size w w2 := hb1.trans (hb2.mono hb1.size)
      have hbb2 : BIn w2 w2.heap.size A l := (HB.out.below hb02).mono hb02.size
      have hT2 : Lib.Utf8Tabs 0 1 w2 := Utf8Tabs_below HT.out hb02
      have HB2 := hid hbb2
      have HT2 := hid hT2
      have H02 := hid hb02
      clear hd hb1 hb2 hb02 hbb2 hT2 hcap2
      have hcase := mark_cases HB2.out
      rcases hcase with ⟨hl2, hm⟩ | ⟨b, off, x, y, z, rfl, h3, hc0, hc1, hc2, hm | hm | hm | hm⟩
      · exact absurd (HM.out.symm.trans hm) (by decide)
      · exact absurd (HM.out.symm.trans (by first | exact hm.2 | exact hm.2.2 | exact hm.2.2.2)) (by decide)
      · exact absurd (HM.out.symm.trans (by first | exact hm.2 | exact hm.2.2 | exact hm.2.2.2)) (by decide)
      · exact absurd (HM.out.symm.trans (by first | exact hm.2 | exact hm.2.2 | exact hm.2.2.2)) (by decide)
      · obtain ⟨rfl, rfl, rfl, hm⟩ := hm
        have h2z : (2 : Int) < (l.length : Int) := by omega
        have h0z : (0 : Int) < (l.length : Int) := by omega
        have h1z : (1 : Int) < (l.length : Int) := by omega
        clear h3
        clear hm
        go_wp2_with fail
        refine (awake_any _ HT2.out).mono ?_
        rintro e w3 ⟨rfl, hb3⟩
        have hbb3 := (HB2.out.below hb3).mono hb3.size
        go_wp2_with fail
        refine (refDetect_any _ l c hl63 w3 hbb3).mono ?_
        rintro e w4 ⟨rfl, hb4⟩
        have hk' := HK.out
        go_wp2
        go_ret
        exact ⟨rfl, (H02.out.trans (hb3.mono H02.out.size)).trans (hb4.mono (Nat.le_trans H02.out.size hb3.size))⟩
    · have cD2 := CD.out
      rw [HM.out.2] at cD2
      have CDx := hid cD2
      clear cD2 CD
      go_wp2_with fail
      refine CDx.out.mono ?_
      rintro e w2 ⟨dv, rfl, hd, hb2⟩
      obtain ⟨A2, cap2, rfl, hcap2⟩ := hd.len
      have hb02 : Below w.heap.size w w2 := hb1.trans (hb2.mono hb1.size)
      have hbb2 : BIn w2 w2.heap.size A l := (HB.out.below hb02).mono hb02.size
      have hT2 : Lib.Utf8Tabs 0 1 w2 := Utf8Tabs_below HT.out hb02
      have HB2 := hid hbb2
      have HT2 := hid hT2
      have H02 := hid hb02
      clear hd hb1 hb2 hb02 hbb2 hT2 hcap2
      have hcase := mark_cases HB2.out
      rcases hcase with ⟨hl2, hm⟩ | ⟨b, off, x, y, z, rfl, h3, hc0, hc1, hc2, hm | hm | hm | hm⟩
      · have hl2z : ¬ (2 : Int) < (l.length : Int) := by omega
        clear hm
        go_wp2_with fail
        refine (awake_any _ HT2.out).mono ?_
        rintro e w3 ⟨rfl, hb3⟩
        have hbb3 := (HB2.out.below hb3).mono hb3.size
        go_wp2_with fail
        refine (refDetect_any _ l c hl63 w3 hbb3).mono ?_
        rintro e w4 ⟨rfl, hb4⟩
        have hk' := HK.out
        go_wp2
        go_ret
        exact ⟨rfl, (H02.out.trans (hb3.mono H02.out.size)).trans (hb4.mono (Nat.le_trans H02.out.size hb3.size))⟩
      · obtain ⟨hx, hm⟩ := hm
        have h2z : (2 : Int) < (l.length : Int) := by omega
        have h0z : (0 : Int) < (l.length : Int) := by omega
        have h1z : (1 : Int) < (l.length : Int) := by omega
        have ex : ((x : Int) == 239) = false := by simp; omega
        clear h3
        clear hm
        go_wp2_with fail
        refine (awake_any _ HT2.out).mono ?_
        rintro e w3 ⟨rfl, hb3⟩
        have hbb3 := (HB2.out.below hb3).mono hb3.size
        go_wp2_with fail
        refine (refDetect_any _ l c hl63 w3 hbb3).mono ?_
        rintro e w4 ⟨rfl, hb4⟩
        have hk' := HK.out
        go_wp2
        go_ret
        exact ⟨rfl, (H02.out.trans (hb3.mono H02.out.size)).trans (hb4.mono (Nat.le_trans H02.out.size hb3.size))⟩
      · obtain ⟨rfl, hy, hm⟩ := hm
        have h2z : (2 : Int) < (l.length : Int) := by omega
        have h0z : (0 : Int) < (l.length : Int) := by omega
        have h1z : (1 : Int) < (l.length : Int) := by omega
        have ey : ((y : Int) == 187) = false := by simp; omega
        clear h3
        clear hm
        go_wp2_with fail
        refine (awake_any _ HT2.out).mono ?_
        rintro e w3 ⟨rfl, hb3⟩
        have hbb3 := (HB2.out.below hb3).mono hb3.size
        go_wp2_with fail
        refine (refDetect_any _ l c hl63 w3 hbb3).mono ?_
        rintro e w4 ⟨rfl, hb4⟩
        have hk' := HK.out
        go_wp2
        go_ret
        exact ⟨rfl, (H02.out.trans (hb3.mono H02.out.size)).trans (hb4.mono (Nat.le_trans H02.out.size hb3.size))⟩
      · obtain ⟨rfl, rfl, hz, hm⟩ := hm
        have h2z : (2 : Int) < (l.length : Int) := by omega
        have h0z : (0 : Int) < (l.length : Int) := by omega
        have h1z : (1 : Int) < (l.length : Int) := by omega
        have ez : ((z : Int) == 191) = false := by simp; omega
        clear h3
        clear hm
        go_wp2_with fail
        refine (awake_any _ HT2.out).mono ?_
        rintro e w3 ⟨rfl, hb3⟩
        have hbb3 := (HB2.out.below hb3).mono hb3.size
        go_wp2_with fail
        refine (refDetect_any _ l c hl63 w3 hbb3).mono ?_
        rintro e w4 ⟨rfl, hb4⟩
        have hk' := HK.out
        go_wp2
        go_ret
        exact ⟨rfl, (H02.out.trans (hb3.mono H02.out.size)).trans (hb4.mono (Nat.le_trans H02.out.size hb3.size))⟩
      · exact absurd (HM.out.1.symm.trans hm.2.2.2) (by decide)
end Go.Proofs.YtcjomjhaimlbmaaDoor
