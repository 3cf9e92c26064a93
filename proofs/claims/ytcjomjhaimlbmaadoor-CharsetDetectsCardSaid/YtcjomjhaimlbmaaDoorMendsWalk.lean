/-
  The walk of the statement CharsetMends: it returns true. Conditions: the bytes lie in memory as a slice; the library's two tables hold what their initialisers lay.
-/
import Derived.Test.YtcjomjhaimlbmaaDoorAwake
import Derived.Deep.QuietTactic
import Derived.BigQuiet
namespace Go.Proofs.YtcjomjhaimlbmaaDoor
open Go Go.Proofs Go.RowKit Go.Lib

theorem toks_length (p : Nat) (l : List UInt8) : (toks p l).length ≤ l.length := by
  refine toks_ind (C := fun p l => (toks p l).length ≤ l.length) (fun p => by simp [toks_nil]) (fun p l hne ih => ?_) l.length p l (Nat.le_refl _)
  have hw := decodeL_width l
  have hl : 0 < l.length := List.length_pos_iff.2 hne
  rw [toks_step p l hne]
  simp only [List.length_cons, List.length_drop] at ih ⊢
  omega
theorem sings_length (g : Nat) : ∀ (p : Nat) (l : List UInt8), (sings g p l).length = l.length
  | _, [] => rfl
  | p, c :: l => by simp [sings, sings_length g (p + 1) l]
theorem dmgT_length (ts : List Tok) : (dmgT ts).length ≤ ts.length := by
  unfold dmgT
  rw [List.length_map]
  exact List.length_filter_le _ _
theorem tokens_length (k : Int) (l : List UInt8) : (tokens k l).length ≤ l.length := by
  unfold tokens
  split
  · split
    · exact Nat.le_trans (toks_length 3 _) (by simp)
    · exact toks_length 0 l
  · rw [sings_length]; exact Nat.le_refl _
theorem errD_ok (k : Int) (n : Nat) (hk : k = 1 ∨ k = 2 ∨ k = 3) (hn : n ≤ 65536) : errD k n = 0 := by unfold errD; rw [if_pos hk, if_neg (by omega)]
theorem tokD_ok (k : Int) (l : List UInt8) (hk : k = 1 ∨ k = 2 ∨ k = 3) (hn : l.length ≤ 65536) : tokD k l = tokens k l := if_pos ⟨hk, hn⟩
theorem proper_text (ts : List Tok) (h : ∀ t ∈ ts, ValidR t.rune) : properB (textT ts) = true := by unfold properB; rw [textT_good ts h]; simp

set_option maxHeartbeats 2000000 in
set_option maxRecDepth 100000 in
theorem mends_any (A : Option Addr) (l : List UInt8) (c : Nat) (n : Int) (w : World) (hb : BIn w w.heap.size A l) (hl63 : l.length ≤ 9223372036854775807) (hT : Lib.Utf8Tabs 0 1 w) :
    Calls Tryd.prog 7 #[.slice A l.length c, .int .i64 n] w fun e w' => e = .returned (.bool true) ∧ Below w.heap.size w w' := by
  obtain ⟨k, hk⟩ : ∃ k, 1 + mod3 n = k := ⟨_, rfl⟩
  have hkr : k = 1 ∨ k = 2 ∨ k = 3 := by have := mod3_range n; omega
  have hm := mod3_range n
  have hm0 : 0 ≤ mod3 n := by omega
  have hm2 : mod3 n ≤ 2 := by omega
  obtain ⟨m, hm3⟩ : ∃ m, mod3 n = m := ⟨_, rfl⟩
  have cM := mod_any n
  rw [hm3] at hk hm0 hm2 cM
  have cD := decode_any A l c k w hb hT
  rw [← hk] at cD
  have CM := hid cM
  have CD := hid cD
  have HK := hid hk
  clear cM cD hk hm hm3
  by_cases hbig : 65536 < l.length
  · have hbz : (65536 : Int) < (l.length : Int) := by omega
    have e2 : errD (1 + m) l.length = 2 := by rw [HK.out]; unfold errD; rw [if_pos hkr, if_pos hbig]
    have CD2 := CD.out
    rw [e2] at CD2
    have CD3 := hid CD2
    clear CD CD2 e2 hkr
    go_enter Tryd.func7, Tryd.ntmps7
    go_wp2_with (go_at_call 16; refine (CM.out _).mono ?_; rintro e w' ⟨rfl, rfl⟩)
    go_wp2_with (go_at_call 8; refine CD3.out.mono ?_; rintro e w1 ⟨dv, rfl, hd, hb1⟩)
    go_wp2_with (go_at_call 10; refine (awake_any _ (Utf8Tabs_below hT hb1)).mono ?_; rintro e w2 ⟨rfl, hb2⟩)
    go_ret
    exact ⟨rfl, hb1.trans (hb2.mono hb1.size)⟩
  · have hbz : ¬ (65536 : Int) < (l.length : Int) := by omega
    have e2 : errD (1 + m) l.length = 0 := by rw [HK.out]; exact errD_ok k _ hkr (by omega)
    have e3 : tokD (1 + m) l = tokens k l := by rw [HK.out]; exact tokD_ok k l hkr (by omega)
    have CD2 := CD.out
    rw [e2, e3] at CD2
    have hpr := proper_text (tokens k l) (tokens_valid k l)
    obtain ⟨hord, hat⟩ := tokens_order k l
    obtain ⟨T, hTT⟩ : ∃ T, textT (tokens k l) = T := ⟨_, rfl⟩
    obtain ⟨D, hDD⟩ : ∃ D, dmgT (tokens k l) = D := ⟨_, rfl⟩
    rw [hTT, hDD] at CD2
    rw [hTT] at hpr
    rw [hDD] at hord hat
    have CD3 := hid CD2
    have HORD := hid hord
    have HAT := hid hat
    have HPR := hid hpr
    have hDl : D.length ≤ l.length := by rw [← hDD]; exact Nat.le_trans (dmgT_length _) (tokens_length k l)
    clear CD CD2 e2 e3 hkr hpr hord hat hTT hDD
    go_enter Tryd.func7, Tryd.ntmps7
    go_wp2_with (go_at_call 16; refine (CM.out _).mono ?_; rintro e w' ⟨rfl, rfl⟩)
    go_wp2_with (go_at_call 8; refine CD3.out.mono ?_; rintro e w1 ⟨dv, rfl, hd, hb1⟩)
    have hT1 := Utf8Tabs_below hT hb1
    have hbb := hb.below hb1
    obtain ⟨A2, cap2, rfl, hcap2⟩ := hd.len
    clear hb hT
    go_wp2
    go_loopw [8, 9] (fun la i wr => ∃ (i0 : Nat) (z : Int), la = .int .i64 z ∧ i = .int .i64 (i0 : Int) ∧ i0 ≤ D.length ∧ (∀ x, D[i0]? = some x → z < (x.1 : Int)) ∧ ∃ q, wr = w1.drewN q) (fun _ i _ => D.length - (RowKit.intOf i).toNat)
    case atStart =>
      exact ⟨0, -1, rfl, rfl, Nat.zero_le _, fun x _ => by omega, 0, rfl⟩
    case round =>
      obtain ⟨i0, z, rfl, rfl, hi0, hz, q, rfl⟩ := hrel
      by_cases hlt : i0 < D.length
      · obtain ⟨x, hx⟩ : ∃ x, D[i0]? = some x := ⟨_, List.getElem?_eq_getElem hlt⟩
        have hzx := hz x hx
        obtain ⟨hax, h128⟩ := HAT.out x (List.mem_of_getElem? hx)
        have hal := (List.getElem?_eq_some_iff.1 hax).1
        obtain ⟨g, cap', hv, hBg, hc1, hc2⟩ := hd.cell hx
        injection hv with hA _ hcp
        subst hA hcp
        obtain ⟨at', by'⟩ := x
        obtain ⟨y, hy⟩ : ∃ y, by'.toNat = y := ⟨_, rfl⟩
        dsimp only at hax h128 hal hc1 hc2 hzx
        have hy8 : y < 256 := by rw [← hy]; exact by'.toNat_lt
        rw [hy] at h128 hc2
        obtain ⟨b, off, hA, hbB, hcb⟩ := hbb.at_ hal
        subst hA
        have hby : l[at'] = by' := (List.getElem?_eq_some_iff.1 hax).2
        rw [hby, hy] at hcb
        have hil : i0 < cap2 := by omega
        have t1 : decide ((at' : Int) ≤ z) = false := by simp; omega
        have t2 : decide ((l.length : Int) ≤ (at' : Int)) = false := by simp; omega
        have t3 : ((y : Int) != (y : Int)) = false := by simp
        have t5 : IntKind.i64.wrap (y : Int) = (y : Int) := IntWalk.i64_in _ (by omega)
        have t6 : decide (l.length ≤ at') = false := by simp; omega
        have t4 : decide ((y : Int) < 128) = false := by simp; omega
        have hw1 : w.heap.size ≤ w1.heap.size := hb1.size
        have HX := hid hx
        clear hax hby hz hbb hd hx hy
        go_wp2
        go_quiet (fail)
        go_wp2
        go_roundw
        case rel =>
          refine ⟨i0 + 1, (at' : Int), rfl, by go_num, by omega, fun x' hx' => ?_, q + nq, rfl⟩
          have h1 := List.pairwise_iff_getElem.1 HORD.out i0 (i0 + 1) hlt (List.getElem?_eq_some_iff.1 hx').1 (by omega)
          rw [(List.getElem?_eq_some_iff.1 HX.out).2, (List.getElem?_eq_some_iff.1 hx').2] at h1
          dsimp only at h1
          omega
        case measure => simp [RowKit.intOf]; omega
      · have hb1' : Below w.heap.size w (w1.drewN q) := hb1.trans ⟨rfl, rfl, rfl, Nat.le_refl _, fun _ _ => rfl⟩
        have hT2 : Lib.Utf8Tabs 0 1 (w1.drewN q) := Utf8Tabs_below hT1 ⟨rfl, rfl, rfl, Nat.le_refl _, fun _ _ => rfl⟩
        have cP := proper_any (⟨T.toArray⟩ : ByteArray)
        have hpp : properB (⟨T.toArray⟩ : ByteArray).data.toList = true := HPR.out
        rw [hpp] at cP
        have CP := hid cP
        clear cP hpp hz hd hbb hT1
        go_wp2_with (go_at_call 10; refine (awake_any _ hT2).mono ?_; rintro e w3 ⟨rfl, hb3⟩)
        go_wp2_with (go_at_call 17; refine (CP.out _).mono ?_; rintro e w4 ⟨rfl, hb4⟩)
        go_ret
        exact ⟨rfl, (hb1'.trans (hb3.mono hb1'.size)).trans (hb4.mono (Nat.le_trans hb1'.size hb3.size))⟩
end Go.Proofs.YtcjomjhaimlbmaaDoor
