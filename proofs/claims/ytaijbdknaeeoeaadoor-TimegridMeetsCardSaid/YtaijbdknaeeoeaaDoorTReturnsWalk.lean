/-
  The walk of TimegridReturns: a made time is read as it was written. Conditions: the numbers lie in memory as a slice of ints; the variables hold what their text lays.
-/
import Derived.Test.YtaijbdknaeeoeaaDoorAw
import Derived.Test.YtaijbdknaeeoeaaDoorG7
import Derived.Test.YtaijbdknaeeoeaaDoorM2
set_option linter.unusedVariables false
namespace Go.Proofs.YtaijbdknaeeoeaaDoor
open Go Go.Proofs Go.RowKit Go.Lib

theorem Cells4.played {T : TypeId} {w w' : World} {B g : Nat} {a b x d : Int} (h : Cells4 T w B a b x d) (p : Played w.heap.size g w w') (hB : B ≠ g) : Cells4 T w' B a b x d := (p.block _ h.lt hB).trans h
/-- A made grid is valid, a made time fits it. -/
theorem made_grid {d s b m : Int} (h : MadeG d s b m) : GridP d s b m := by
  obtain ⟨h1, h2, h3, h4⟩ := h
  have hm : s * m ≤ 8 * 60 := Int.mul_le_mul (by omega) (by omega) (by omega) (by omega)
  exact ⟨by omega, by omega, by omega, by omega, by omega⟩
theorem made_frame {d s b m : Int} {n : Nat} (h : MadeG d s b m) (h1 : 1 ≤ n) (h2 : n ≤ 20) : frameB d s b m n = true :=
  decide_eq_true ⟨decide_eq_true (made_grid h), by omega, by omega⟩
theorem mvalid {n : Nat} {k : Int} (h1 : 1 ≤ n) (h2 : n ≤ 20) (hk : 1 ≤ k) (hk2 : k < 2 ^ n) : validM k n = true := validM_yes h1 h2 hk hk2
theorem pow_mono {a b : Nat} (h : a ≤ b) : (2 : Int) ^ a ≤ 2 ^ b := by
  have := pow_le h
  have e : (2 : Int) ^ a = ((2 ^ a : Nat) : Int) := by rw [Int.natCast_pow]; rfl
  have e2 : (2 : Int) ^ b = ((2 ^ b : Nat) : Int) := by rw [Int.natCast_pow]; rfl
  omega
theorem made_sound {d s b m k y t l : Int} {n : Nat} (h : MadeG d s b m) (h1 : 1 ≤ n) (h2 : n ≤ 20) (ht : MadeT d s n k y t l) : soundB k y t l = true := by
  obtain ⟨g1, g2, g3, g4⟩ := h
  obtain ⟨t1, t2, t3, t4, t5⟩ := ht
  have := pow_mono h2
  exact decide_eq_true ⟨validM_yes (n := 20) (by omega) (by omega) t1.1 (by omega), by omega, by omega, by omega, by omega⟩
theorem made_fits {d s b m k y t l : Int} {n : Nat} (h : MadeG d s b m) (h1 : 1 ≤ n) (h2 : n ≤ 20) (ht : MadeT d s n k y t l) : fitsM d s b m n k y t l = 0 := by
  unfold fitsM
  rw [if_pos (made_frame h h1 h2), if_pos ⟨made_sound h h1 h2 ht, mvalid h1 h2 ht.1.1 ht.1.2, ht.2.1.2, ht.2.2.2.2⟩]

set_option maxHeartbeats 8000000 in
set_option maxRecDepth 100000 in
theorem treturns_any (A : Option Addr) (L : List Int) (c : Nat) (hlen : L.length ≤ 9223372036854775807) (w : World) (hE : Env w) (hDy : Days w) (h : IntsIn w w.heap.size A L) :
    Calls Tryd.prog 10 #[.slice A L.length c] w fun e w' => e = .returned (.bool true) ∧ Below w.heap.size w w' := by
  have cL := light_any A L.length c w
  have hsz := hE.size
  have HE := hid (fun w' (hb : Below w.heap.size w w') => hE.below hb hsz)
  have HDY := hid (fun w' (hb : Below w.heap.size w w') => hDy.below hb hsz)
  have cK := hid (fun w' (hb : Below w.heap.size w w') => tawake_any w' (hE.below hb hsz) (hDy.below hb hsz))
  have cK' := cK.out
  unfold Says at cK'
  have cK := hid cK'
  clear cK'
  by_cases hl : L.length ≤ 400
  · rw [decide_eq_true hl] at cL
    have cR := hid (fun w h => roll_any A L c hl w h)
    have HI := hid h
    clear hE hDy h
    go_enter Tryd.func10, Tryd.ntmps10
    go_wp2_with fail
    refine cL.mono ?_
    rintro e w' ⟨rfl, rfl⟩
    go_wp2_with fail
    refine (cR.out _ HI.out).mono ?_
    rintro e w1 ⟨rfl, hd1, hb1⟩
    have hgl := hd1.lt
    have HB : Hid (∀ W k, DE w1 w.heap.size c A L k W → Below w.heap.size w W) := hid (fun W k he => hb1.trans (he.toBelow (Nat.le_of_lt hgl) (Nat.le_refl _)))
    have cG := hid (grid_any w.heap.size c 0 A L w1 hd1)
    clear hd1 hb1 cL cR HI
    go_wp2_with fail
    refine cG.out.mono ?_
    rintro e w2 ⟨d, s, b, m, k2, rfl, hmg, he2⟩
    have HN := hid (fun (W : World) k n hn (h : DiceAt W w.heap.size A L c k) => next_at w.heap.size c k A L n hn W h)
    have cN := HN.out _ _ 20 (by omega) he2.d
    obtain ⟨r, hr⟩ : ∃ r, rollV L k2 20 = r := ⟨_, rfl⟩
    have hrr := rollV_range L k2 20 (by omega)
    rw [hr] at cN hrr
    generalize rollK L k2 = k3 at cN
    obtain ⟨q, rfl⟩ : ∃ q : Nat, r = (q : Int) := ⟨r.toNat, by omega⟩
    obtain ⟨n, hn⟩ : ∃ n, q + 1 = n := ⟨_, rfl⟩
    have hn1 : 1 ≤ n := by omega
    have hn2 : n ≤ 20 := by omega
    have hni : 1 + (q : Int) = (n : Int) := by omega
    have HE2 := hid he2
    have CN := hid cN
    have HMG := hid hmg
    have g1 : 1 ≤ d ∧ d ≤ 5 := hmg.1
    have g2 : 2 ≤ s ∧ s ≤ 8 := hmg.2.1
    clear cN he2 hr hrr hn cG hmg
    go_wp2_with fail
    refine CN.out.mono ?_
    rintro e w3 ⟨rfl, hd3, hR3⟩
    have he3 := HE2.out.next hd3 hR3
    have he4 := he3.alloc (.cells #[.int .i64 d, .int .i64 s, .int .i64 b, .int .i64 m] 44)
    have hc4 := Cells4.new w3 d s b m 44
    have hg3 := he3.p.size
    have HE4 := hid he4
    have HC4 := hid hc4
    clear he3 he4 hc4 hd3 hR3 CN HE2
    obtain ⟨g0, g1', g2', g3', _⟩ := HC4.out.box
    have hne : w3.heap.size ≠ w.heap.size := by omega
    have cT := hid (time_any w.heap.size c _ A L d s b m n hn1 hn2 (by omega) (by omega) (by omega) (by omega) _ HE4.out.d)
    go_wp2_with fail
    refine cT.out.mono ?_
    rintro e w5 ⟨K, Y, T, U, k5, rfl, hmt, he5⟩
    have he5' := HE4.out.trans he5
    have hc5 := HC4.out.played he5.p hne
    have hs5 := he5.p.size
    have hlt4 := HC4.out.lt
    have he6 := he5'.alloc (.cells #[.int .i64 K, .int .i64 Y, .int .i64 T, .int .i64 U] 46)
    have hc6 := hc5.under ((Below.refl _ w5).alloc (Nat.le_refl _) (.cells #[.int .i64 K, .int .i64 Y, .int .i64 T, .int .i64 U] 46))
    have ht6 := Cells4.new w5 K Y T U 46
    have HB6 := hid (HB.out _ _ he6)
    have HC6 := hid hc6
    have HT6 := hid ht6
    have hfit := made_fits HMG.out hn1 hn2 hmt
    have hsd := made_sound HMG.out hn1 hn2 hmt
    have hTn : 0 ≤ T ∧ T ≤ 9223372036854775807 := ⟨hmt.2.2.1.1, by have := hmt.2.2.1.2; omega⟩
    obtain ⟨kn, rfl⟩ := natN (show 0 ≤ K by have := hmt.1.1; omega)
    obtain ⟨yn, rfl⟩ := natN (show 0 ≤ Y by have := hmt.2.1.1; omega)
    obtain ⟨tn, rfl⟩ := natN hTn.1
    obtain ⟨un, rfl⟩ := natN (show 0 ≤ U by have := hmt.2.2.2.1; omega)
    have cF := fun w h h' => tformat_any d s b m (n : Int) (kn : Int) (yn : Int) (tn : Int) (un : Int) hTn.2 w h h'
    unfold FormOut textT at cF
    rw [hfit, if_pos rfl] at cF
    simp only [Int.toNat_natCast] at cF
    have hread := time_read hfit
    have htl := time_len (n := n) (k := kn) (y := yn) (t := tn) (l := un)
    have cP := fun w h h' => tparse_any d s b m (n : Int) (ba (timeT n kn yn tn un)) (by rw [ba_size]; omega) w h h'
    rw [lst_ba, hread] at cP
    unfold TimeOut at cP
    dsimp only at cP cF
    generalize ba (timeT n kn yn tn un) = X at cF cP
    have CF := hid cF
    have CP := hid cP
    clear he5 he5' hc5 he6 hc6 ht6 hfit hsd hread htl cF cP cT hmt HE4 HC4 HB g0 g1' g2' g3' hs5 hlt4 hg3
    obtain ⟨g0, g1', g2', g3', _⟩ := HC6.out.box
    obtain ⟨t0, t1, t2, t3, _⟩ := HT6.out.box
    go_wp2_with fail
    refine (CF.out _ (HE.out _ HB6.out) (HDY.out _ HB6.out)).mono ?_
    rintro e w7 ⟨rfl, hb7⟩
    have HB7 := hid (HB6.out.trans (hb7.mono HB6.out.size))
    have HC7 := hid (HC6.out.under hb7)
    have HT7 := hid (HT6.out.under hb7)
    clear hb7 HB6 HC6 HT6 g0 g1' g2' g3' t0 t1 t2 t3
    obtain ⟨g0, g1', g2', g3', _⟩ := HC7.out.box
    go_wp2_with fail
    refine (CP.out _ (HE.out _ HB7.out) (HDY.out _ HB7.out)).mono ?_
    rintro e w8 ⟨rfl, hb8⟩
    have HB8 := hid (HB7.out.trans (hb8.mono HB7.out.size))
    have HT8 := hid ((HT7.out.under hb8).under ((Below.refl _ w8).alloc (Nat.le_refl _) (.cells #[.int .i64 (kn : Int), .int .i64 (yn : Int), .int .i64 (tn : Int), .int .i64 (un : Int)] 46)))
    have HU8 := hid (Cells4.new w8 (kn : Int) (yn : Int) (tn : Int) (un : Int) 46)
    have HB9 := hid (HB8.out.alloc HB8.out.size (.cells #[.int .i64 (kn : Int), .int .i64 (yn : Int), .int .i64 (tn : Int), .int .i64 (un : Int)] 46))
    clear hb8 HB7 HC7 HT7 HB8 g0 g1' g2' g3'
    go_wp2_with fail
    refine (cK.out _ HB9.out).mono ?_
    rintro e w9 ⟨rfl, hb9⟩
    have HB10 := hid (HB9.out.trans (hb9.mono HB9.out.size))
    obtain ⟨t0, t1, t2, t3, _⟩ := (HT8.out.under hb9).box
    obtain ⟨u0, u1, u2, u3, _⟩ := (HU8.out.under hb9).box
    clear hb9
    go_wp2
    go_ret
    exact ⟨rfl, HB10.out⟩
  · rw [decide_eq_false hl] at cL
    clear hE hDy h
    go_enter Tryd.func10, Tryd.ntmps10
    go_wp2_with fail
    refine cL.mono ?_
    rintro e w' ⟨rfl, rfl⟩
    go_wp2_with fail
    refine (cK.out _ (Below.refl _ _)).mono ?_
    rintro e w1 ⟨rfl, hb1⟩
    have HB1 := hid hb1
    clear hb1
    go_wp2
    go_ret
    exact ⟨rfl, HB1.out⟩
end Go.Proofs.YtaijbdknaeeoeaaDoor
