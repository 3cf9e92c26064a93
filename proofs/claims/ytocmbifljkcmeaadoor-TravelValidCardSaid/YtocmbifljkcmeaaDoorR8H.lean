/-
  The slots of a way between two buildings: Between of travel, Between of the specification. Conditions: the table lies in memory.
-/
import Derived.Test.YtocmbifljkcmeaaDoorR8D
import Derived.BigQuiet
set_option linter.unusedVariables false
namespace Go.Proofs.YtocmbifljkcmeaaDoor
open Go Go.Proofs Go.RowKit Go.Lib

theorem betw_in (l : List Str) (R : List (List Int)) (a b : Str) (i k : Nat) (hab : a ≠ b) (hi : plc l a = (i : Int)) (hk : plc l b = (k : Int)) (h1 : i < R.length) (h2 : k < (R.getD i []).length) :
    betwM (l, R) a b = if at2 R i k = -1 then 0 else at2 R i k := by
  unfold betwM
  dsimp only
  rw [hi, hk, Int.toNat_natCast, Int.toNat_natCast, if_neg (by rintro (h | h | h | h | h); exact hab h; all_goals omega)]
theorem betw_out (l : List Str) (R : List (List Int)) (a b : Str) (h : a = b ∨ plc l a < 0 ∨ plc l b < 0 ∨ (R.length : Int) ≤ plc l a ∨ ((R.getD (plc l a).toNat []).length : Int) ≤ plc l b) : betwM (l, R) a b = 0 := by
  unfold betwM
  dsimp only
  rw [if_pos h]
set_option maxHeartbeats 8000000 in
set_option maxRecDepth 100000 in
theorem tbetw_any (A S : Option Addr) (l : List Str) (R : List (List Int)) (c d : Nat) (x y : ByteArray) (w : World) (h : TravIn w (fun b => b < w.heap.size) A S (l, R)) (h63 : l.length ≤ 9223372036854775807) (h64 : R.length ≤ 9223372036854775807) :
    Calls Tryd.prog 14 #[.agg #[.slice A l.length c, .slice S R.length d], .string x, .string y] w (Says (.int .i64 (betwM (l, R) (lst x) (lst y))) w) := by
  unfold Says
  have hk := KT.first w (.slice A l.length c) (.slice S R.length d) 25
  have hin : TravIn (w.alloc (.cells #[.slice A l.length c, .slice S R.length d] 25)) (fun b => b < w.heap.size) A S (l, R) := h.below hk.b
  have cI : ∀ (z : ByteArray) (q : Nat), Calls Tryd.prog 35 #[.slice A l.length c, .string z] ((w.alloc (.cells #[.slice A l.length c, .slice S R.length d] 25)).drewN q) fun e w' => e = .returned (.int .i64 (plc l (lst z))) ∧ ∃ q', w' = ((w.alloc (.cells #[.slice A l.length c, .slice S R.length d] 25)).drewN q).drewN q' :=
    fun z q => (index_any A l c z _ _ (drewN_stays' hin.b q) h63).mono fun e w' ⟨he, hw⟩ => ⟨he, 0, hw.symm⟩
  have hs := hin.s
  have HB := hid hk.b
  have HDR := hid (fun q => (hk.drawn q).b)
  obtain ⟨x0, x1, _, _⟩ := hk
  have hx := plc_spec l (lst x)
  have hy := plc_spec l (lst y)
  have HIN := betw_in l R (lst x) (lst y)
  have HOUT := betw_out l R (lst x) (lst y)
  obtain ⟨ANS, hANS⟩ : ∃ ANS, betwM (l, R) (lst x) (lst y) = ANS := ⟨_, rfl⟩
  rw [hANS] at HIN HOUT ⊢
  have cX := cI x
  have cY := cI y
  obtain ⟨px, hpx⟩ : ∃ p, plc l (lst x) = p := ⟨_, rfl⟩
  obtain ⟨py, hpy⟩ : ∃ p, plc l (lst y) = p := ⟨_, rfl⟩
  rw [hpx] at cX hx HIN HOUT
  rw [hpy] at cY hy HIN HOUT
  have CX := hid cX
  have CY := hid cY
  obtain ⟨L, hL⟩ : ∃ L, l.length = L := ⟨_, rfl⟩
  rw [hL] at x0 CX CY HB HDR hs
  rw [hL]
  obtain ⟨NR, hNR⟩ : ∃ n, R.length = n := ⟨_, rfl⟩
  have hbe : (x.toList == y.toList) = decide (lst x = lst y) := by
    have e1 : x.toList = lst x := Lib.toList_data x
    have e2 : y.toList = lst y := Lib.toList_data y
    rw [e1, e2, Bool.eq_iff_iff]
    simp
  clear cI cX cY hin h hANS hpx hpy hL h63
  by_cases hxy : lst x = lst y
  · obtain rfl := HOUT (.inl hxy)
    rw [decide_eq_true hxy] at hbe
    clear HIN HOUT hx hy hs hNR hxy
    go_enter Tryd.func14, Tryd.ntmps14
    go_wp2
    go_quiet ((go_at_call 35; first | with_reducible refine Calls.quiet_of (CX.out _) | with_reducible refine Calls.quiet_of (CY.out _)))
    go_wp2
    go_ret
    exact ⟨rfl, HDR.out _⟩
  · rw [decide_eq_false hxy] at hbe
    rcases hx with ⟨rfl, _⟩ | ⟨i, rfl, hi, _⟩
    · obtain rfl := HOUT (.inr (.inl (by omega)))
      clear HIN HOUT hy hs hNR hxy
      go_enter Tryd.func14, Tryd.ntmps14
      go_wp2
      go_quiet ((go_at_call 35; first | with_reducible refine Calls.quiet_of (CX.out _) | with_reducible refine Calls.quiet_of (CY.out _)))
      go_wp2
      go_ret
      exact ⟨rfl, HDR.out _⟩
    · have hi0 : ¬ (i : Int) < 0 := by omega
      rcases hy with ⟨rfl, _⟩ | ⟨k, rfl, hk, _⟩
      · obtain rfl := HOUT (.inr (.inr (.inl (by omega))))
        clear HIN HOUT hs hNR hxy
        go_enter Tryd.func14, Tryd.ntmps14
        go_wp2
        go_quiet ((go_at_call 35; first | with_reducible refine Calls.quiet_of (CX.out _) | with_reducible refine Calls.quiet_of (CY.out _)))
        go_wp2
        go_ret
        exact ⟨rfl, HDR.out _⟩
      · have hk0 : ¬ (k : Int) < 0 := by omega
        by_cases hir : i < R.length
        · have hiz : ¬ (R.length : Int) ≤ (i : Int) := by omega
          have d1 : decide (R.length ≤ i) = false := decide_eq_false (by omega)
          obtain ⟨b1, o1, A1, c1, rfl, hb1, y1, _, _, hnum⟩ := hs.at_ hir
          by_cases hkr : k < (R.getD i []).length
          · have hv := HIN i k hxy rfl rfl hir hkr
            obtain ⟨b2, o2, rfl, hb2, y2⟩ := hnum.at_ hkr
            have ea : (R.getD i []).getD k 0 = at2 R i k := rfl
            rw [ea] at y2
            have hkz : ¬ ((R.getD i []).length : Int) ≤ (k : Int) := by omega
            have d2 : decide ((R.getD i []).length ≤ k) = false := decide_eq_false (by omega)
            obtain ⟨v, hvv⟩ : ∃ v, at2 R i k = v := ⟨_, rfl⟩
            rw [hvv] at hv y2
            generalize (R.getD i []).length = NI at y1 hkz d2 hkr hnum
            rw [hNR] at hiz d1 x1 CX CY HB HDR y1 y2 hir
            rw [hNR]
            clear HIN HOUT hnum hs hxy ea hvv hNR hi hk hir hkr
            by_cases hm : v = -1
            · have hmb : (v == -1) = true := by simp [hm]
              rw [if_pos hm] at hv
              subst hv
              clear hm
              go_enter Tryd.func14, Tryd.ntmps14
              go_wp2
              go_quiet ((go_at_call 35; first | with_reducible refine Calls.quiet_of (CX.out _) | with_reducible refine Calls.quiet_of (CY.out _)))
              go_wp2
              go_ret
              exact ⟨rfl, HDR.out _⟩
            · have hmb : (v == -1) = false := by simp [hm]
              rw [if_neg hm] at hv
              subst hv
              clear hm
              go_enter Tryd.func14, Tryd.ntmps14
              go_wp2
              go_quiet ((go_at_call 35; first | with_reducible refine Calls.quiet_of (CX.out _) | with_reducible refine Calls.quiet_of (CY.out _)))
              go_wp2
              go_ret
              exact ⟨rfl, HDR.out _⟩
          · have hkz : ((R.getD i []).length : Int) ≤ (k : Int) := by omega
            obtain rfl := HOUT (.inr (.inr (.inr (.inr (by rw [Int.toNat_natCast]; exact hkz)))))
            have hkz2 : ¬ ((k : Int) < ((R.getD i []).length : Int)) := by omega
            generalize (R.getD i []).length = NI at y1 hkz hkz2
            rw [hNR] at hiz d1 x1 CX CY HB HDR y1 hir
            rw [hNR]
            clear HIN HOUT hnum hs hxy hNR hi hk hir hkr
            go_enter Tryd.func14, Tryd.ntmps14
            go_wp2
            go_quiet ((go_at_call 35; first | with_reducible refine Calls.quiet_of (CX.out _) | with_reducible refine Calls.quiet_of (CY.out _)))
            go_wp2
            go_ret
            exact ⟨rfl, HDR.out _⟩
        · have hiz : (R.length : Int) ≤ (i : Int) := by omega
          obtain rfl := HOUT (.inr (.inr (.inr (.inl hiz))))
          rw [hNR] at hiz x1 CX CY HB HDR hir
          rw [hNR]
          clear HIN HOUT hs hxy hNR hi hk hir
          go_enter Tryd.func14, Tryd.ntmps14
          go_wp2
          go_quiet ((go_at_call 35; first | with_reducible refine Calls.quiet_of (CX.out _) | with_reducible refine Calls.quiet_of (CY.out _)))
          go_wp2
          go_ret
          exact ⟨rfl, HDR.out _⟩
set_option maxHeartbeats 8000000 in
set_option maxRecDepth 100000 in
theorem rtbetw_any (A S : Option Addr) (l : List Str) (R : List (List Int)) (c d : Nat) (x y : ByteArray) (w : World) (h : TravIn w (fun b => b < w.heap.size) A S (l, R)) (h63 : l.length ≤ 9223372036854775807) (h64 : R.length ≤ 9223372036854775807) :
    Calls Tryd.prog 15 #[.agg #[.slice A l.length c, .slice S R.length d], .string x, .string y] w (Says (.int .i64 (betwM (l, R) (lst x) (lst y))) w) := by
  unfold Says
  have hk := KT.first w (.slice A l.length c) (.slice S R.length d) 25
  have hin : TravIn (w.alloc (.cells #[.slice A l.length c, .slice S R.length d] 25)) (fun b => b < w.heap.size) A S (l, R) := h.below hk.b
  have cI : ∀ (z : ByteArray) (q : Nat), Calls Tryd.prog 32 #[.slice A l.length c, .string z] ((w.alloc (.cells #[.slice A l.length c, .slice S R.length d] 25)).drewN q) fun e w' => e = .returned (.int .i64 (plc l (lst z))) ∧ ∃ q', w' = ((w.alloc (.cells #[.slice A l.length c, .slice S R.length d] 25)).drewN q).drewN q' :=
    fun z q => (place_any A l c z _ _ (drewN_stays' hin.b q) h63).mono fun e w' ⟨he, hw⟩ => ⟨he, 0, hw.symm⟩
  have hs := hin.s
  have HB := hid hk.b
  have HDR := hid (fun q => (hk.drawn q).b)
  obtain ⟨x0, x1, _, _⟩ := hk
  have hx := plc_spec l (lst x)
  have hy := plc_spec l (lst y)
  have HIN := betw_in l R (lst x) (lst y)
  have HOUT := betw_out l R (lst x) (lst y)
  obtain ⟨ANS, hANS⟩ : ∃ ANS, betwM (l, R) (lst x) (lst y) = ANS := ⟨_, rfl⟩
  rw [hANS] at HIN HOUT ⊢
  have cX := cI x
  have cY := cI y
  obtain ⟨px, hpx⟩ : ∃ p, plc l (lst x) = p := ⟨_, rfl⟩
  obtain ⟨py, hpy⟩ : ∃ p, plc l (lst y) = p := ⟨_, rfl⟩
  rw [hpx] at cX hx HIN HOUT
  rw [hpy] at cY hy HIN HOUT
  have CX := hid cX
  have CY := hid cY
  obtain ⟨L, hL⟩ : ∃ L, l.length = L := ⟨_, rfl⟩
  rw [hL] at x0 CX CY HB HDR hs
  rw [hL]
  obtain ⟨NR, hNR⟩ : ∃ n, R.length = n := ⟨_, rfl⟩
  have hbe : (x.toList == y.toList) = decide (lst x = lst y) := by
    have e1 : x.toList = lst x := Lib.toList_data x
    have e2 : y.toList = lst y := Lib.toList_data y
    rw [e1, e2, Bool.eq_iff_iff]
    simp
  clear cI cX cY hin h hANS hpx hpy hL h63
  by_cases hxy : lst x = lst y
  · obtain rfl := HOUT (.inl hxy)
    rw [decide_eq_true hxy] at hbe
    clear HIN HOUT hx hy hs hNR hxy
    go_enter Tryd.func15, Tryd.ntmps15
    go_wp2
    go_quiet ((go_at_call 32; first | with_reducible refine Calls.quiet_of (CX.out _) | with_reducible refine Calls.quiet_of (CY.out _)))
    go_wp2
    go_ret
    exact ⟨rfl, HDR.out _⟩
  · rw [decide_eq_false hxy] at hbe
    rcases hx with ⟨rfl, _⟩ | ⟨i, rfl, hi, _⟩
    · obtain rfl := HOUT (.inr (.inl (by omega)))
      clear HIN HOUT hy hs hNR hxy
      go_enter Tryd.func15, Tryd.ntmps15
      go_wp2
      go_quiet ((go_at_call 32; first | with_reducible refine Calls.quiet_of (CX.out _) | with_reducible refine Calls.quiet_of (CY.out _)))
      go_wp2
      go_ret
      exact ⟨rfl, HDR.out _⟩
    · have hi0 : ¬ (i : Int) < 0 := by omega
      rcases hy with ⟨rfl, _⟩ | ⟨k, rfl, hk, _⟩
      · obtain rfl := HOUT (.inr (.inr (.inl (by omega))))
        clear HIN HOUT hs hNR hxy
        go_enter Tryd.func15, Tryd.ntmps15
        go_wp2
        go_quiet ((go_at_call 32; first | with_reducible refine Calls.quiet_of (CX.out _) | with_reducible refine Calls.quiet_of (CY.out _)))
        go_wp2
        go_ret
        exact ⟨rfl, HDR.out _⟩
      · have hk0 : ¬ (k : Int) < 0 := by omega
        by_cases hir : i < R.length
        · have hiz : ¬ (R.length : Int) ≤ (i : Int) := by omega
          have d1 : decide (R.length ≤ i) = false := decide_eq_false (by omega)
          obtain ⟨b1, o1, A1, c1, rfl, hb1, y1, _, _, hnum⟩ := hs.at_ hir
          by_cases hkr : k < (R.getD i []).length
          · have hv := HIN i k hxy rfl rfl hir hkr
            obtain ⟨b2, o2, rfl, hb2, y2⟩ := hnum.at_ hkr
            have ea : (R.getD i []).getD k 0 = at2 R i k := rfl
            rw [ea] at y2
            have hkz : ¬ ((R.getD i []).length : Int) ≤ (k : Int) := by omega
            have d2 : decide ((R.getD i []).length ≤ k) = false := decide_eq_false (by omega)
            obtain ⟨v, hvv⟩ : ∃ v, at2 R i k = v := ⟨_, rfl⟩
            rw [hvv] at hv y2
            generalize (R.getD i []).length = NI at y1 hkz d2 hkr hnum
            rw [hNR] at hiz d1 x1 CX CY HB HDR y1 y2 hir
            rw [hNR]
            clear HIN HOUT hnum hs hxy ea hvv hNR hi hk hir hkr
            by_cases hm : v = -1
            · have hmb : (v == -1) = true := by simp [hm]
              rw [if_pos hm] at hv
              subst hv
              clear hm
              go_enter Tryd.func15, Tryd.ntmps15
              go_wp2
              go_quiet ((go_at_call 32; first | with_reducible refine Calls.quiet_of (CX.out _) | with_reducible refine Calls.quiet_of (CY.out _)))
              go_wp2
              go_ret
              exact ⟨rfl, HDR.out _⟩
            · have hmb : (v == -1) = false := by simp [hm]
              rw [if_neg hm] at hv
              subst hv
              clear hm
              go_enter Tryd.func15, Tryd.ntmps15
              go_wp2
              go_quiet ((go_at_call 32; first | with_reducible refine Calls.quiet_of (CX.out _) | with_reducible refine Calls.quiet_of (CY.out _)))
              go_wp2
              go_ret
              exact ⟨rfl, HDR.out _⟩
          · have hkz : ((R.getD i []).length : Int) ≤ (k : Int) := by omega
            obtain rfl := HOUT (.inr (.inr (.inr (.inr (by rw [Int.toNat_natCast]; exact hkz)))))
            have hkz2 : ¬ ((k : Int) < ((R.getD i []).length : Int)) := by omega
            generalize (R.getD i []).length = NI at y1 hkz hkz2
            rw [hNR] at hiz d1 x1 CX CY HB HDR y1 hir
            rw [hNR]
            clear HIN HOUT hnum hs hxy hNR hi hk hir hkr
            go_enter Tryd.func15, Tryd.ntmps15
            go_wp2
            go_quiet ((go_at_call 32; first | with_reducible refine Calls.quiet_of (CX.out _) | with_reducible refine Calls.quiet_of (CY.out _)))
            go_wp2
            go_ret
            exact ⟨rfl, HDR.out _⟩
        · have hiz : (R.length : Int) ≤ (i : Int) := by omega
          obtain rfl := HOUT (.inr (.inr (.inr (.inl hiz))))
          rw [hNR] at hiz x1 CX CY HB HDR hir
          rw [hNR]
          clear HIN HOUT hs hxy hNR hi hk hir
          go_enter Tryd.func15, Tryd.ntmps15
          go_wp2
          go_quiet ((go_at_call 32; first | with_reducible refine Calls.quiet_of (CX.out _) | with_reducible refine Calls.quiet_of (CY.out _)))
          go_wp2
          go_ret
          exact ⟨rfl, HDR.out _⟩
end Go.Proofs.YtocmbifljkcmeaaDoor
