/-
  The walk of WeeksetMade. Conditions: the numbers lie in memory as a slice of ints; the variables hold what their text lays.
-/
import Derived.Test.YtmmphjpakoimcaaDoorReturnsWalk
import Derived.Test.YtmmphjpakoimcaaDoorSpoil
import Derived.Test.YtmmphjpakoimcaaDoorSet
set_option linter.unusedVariables false
namespace Go.Proofs.YtmmphjpakoimcaaDoor
open Go Go.Proofs Go.RowKit Go.Lib

theorem words7 (j : Nat) (hj : j < 7) : ∃ T : ByteArray, T.size ≤ 6 ∧ (#[Value.string ⟨#[111, 100, 100]⟩, .string ⟨#[101, 118, 101, 110]⟩, .string ⟨#[102, 105, 114, 115, 116]⟩, .string ⟨#[115, 101, 99, 111, 110, 100]⟩, .string ⟨#[97, 108, 108]⟩, .string ⟨#[49, 45, 50]⟩, .string ⟨#[50, 48]⟩] : Array Value)[j]? = some (.string T) := by
  rcases (show j = 0 ∨ j = 1 ∨ j = 2 ∨ j = 3 ∨ j = 4 ∨ j = 5 ∨ j = 6 by omega) with rfl | rfl | rfl | rfl | rfl | rfl | rfl
  all_goals exact ⟨_, by decide, rfl⟩

set_option maxHeartbeats 8000000 in
set_option maxRecDepth 100000 in
theorem made_any (A : Option Addr) (L : List Int) (c : Nat) (hlen : L.length ≤ 9223372036854775807) (w : World) (hE : Env w) (hWd : Words w) (h : IntsIn w w.heap.size A L) :
    Calls Tryd.prog 4 #[.slice A L.length c] w fun e w' => e = .returned (.bool true) ∧ Below w.heap.size w w' := by
  have cL := light_any A L.length c w
  have h6 := hE.size
  have HE := hid hE
  have HWd := hid hWd
  by_cases hl : L.length ≤ 400
  · rw [decide_eq_true hl] at cL
    have cR := hid (fun w h => roll_any A L c hl w h)
    have HI := hid h
    clear hE hWd h
    go_enter Tryd.func4, Tryd.ntmps4
    go_wp2_with fail
    refine cL.mono ?_
    rintro e w' ⟨rfl, rfl⟩
    go_wp2_with fail
    refine (cR.out _ HI.out).mono ?_
    rintro e w1 ⟨rfl, hd1, hb1⟩
    have HB1 := hid hb1
    have hgl : Hid (w.heap.size ≤ w.heap.size) := hid (Nat.le_refl _)
    have HN := hid (fun (W : World) k n hn (h : DiceAt W w.heap.size A L c k) => next_at w.heap.size c k A L n hn W h)
    have cN := HN.out _ _ 20 (by omega) hd1
    obtain ⟨r, hr⟩ : ∃ r, rollV L 0 20 = r := ⟨_, rfl⟩
    have hrr := rollV_range L 0 20 (by omega)
    rw [hr] at cN hrr
    obtain ⟨m, rfl⟩ : ∃ m : Nat, r = (m : Int) := ⟨r.toNat, by omega⟩
    obtain ⟨n, hn⟩ : ∃ n, m + 1 = n := ⟨_, rfl⟩
    have hn1 : 1 ≤ n := by omega
    have hn2 : n ≤ 20 := by omega
    have hni : 1 + (m : Int) = (n : Int) := by omega
    have CN := hid cN
    clear hb1 hd1 hr cN hrr hn cL cR HI
    go_wp2_with fail
    refine CN.out.mono ?_
    rintro e w2 ⟨rfl, hd2, hR2⟩
    have HB2 := hid (HB1.out.trans (hR2.below (Nat.le_refl _)))
    have cS := hid (set_any n hn1 hn2 w.heap.size c _ A L w2 hd2)
    clear hd2 hR2 CN
    go_wp2_with fail
    refine cS.out.mono ?_
    rintro e w3 ⟨⟨S, rfl, hS1, hS2⟩, ⟨k3, hd3⟩, hR3⟩
    have HB3 := hid (HB2.out.trans (hR3.below (Nat.le_refl _)))
    obtain ⟨s, rfl⟩ := natN (show 0 ≤ S by omega)
    have hs1 : 1 ≤ s := by omega
    have hs2 : s < 2 ^ n := by
      have e : (2 : Int) ^ n = ((2 ^ n : Nat) : Int) := by rw [Int.natCast_pow]; rfl
      omega
    have cF := hid (rform_call hs1 hs2 hn1 hn2 w3 (HWd.out.below HB3.out h6))
    have hFl := form_len (s := s) (n := n)
    rw [← ba_size] at hFl
    obtain ⟨F, hF⟩ : ∃ F, ba (formN s n) = F := ⟨_, rfl⟩
    rw [hF] at cF hFl
    have HD3 := hid hd3
    clear hd3 hR3 cS hF hS1 hS2
    go_wp2_with fail
    refine cF.out.mono ?_
    rintro e w4 ⟨rfl, hb4⟩
    have hgl3 := HD3.out.lt
    have HB4 := hid (HB3.out.trans (hb4.mono HB3.out.size))
    have hd4 := HD3.out.below hb4 hgl3
    have cN := HN.out _ _ 3 (by omega) hd4
    obtain ⟨z, hz⟩ : ∃ z, rollV L k3 3 = z := ⟨_, rfl⟩
    rw [hz] at cN
    have CN := hid cN
    have hEx : Hid (∀ (G : ByteArray), G.size ≤ 1000 → ∀ W, Below w.heap.size w W → Calls Tryd.prog 3 #[.int .i64 (s : Int), .int .i64 (n : Int), .string G] W fun e w' => e = .returned (.bool true) ∧ Below W.heap.size W w') :=
      hid (fun G hG W hW => exact_any (s : Int) (n : Int) G (by omega) W (HE.out.below hW h6) (HWd.out.below hW h6))
    clear hb4 hd4 cN hz cF hgl3 HD3
    go_wp2_with fail
    refine CN.out.mono ?_
    rintro e w5 ⟨rfl, hd5, hR5⟩
    have HB5 := hid (HB4.out.trans (hR5.below (Nat.le_refl _)))
    have HD5 := hid hd5
    clear hd5 hR5 CN
    by_cases z0 : z = 0
    · subst z0
      have cP := hid (spoil_any w.heap.size c _ A L F ⟨#[48, 49, 50, 57, 45, 44, 32, 97, 111]⟩ (by omega) (by decide) (by decide) w5 HD5.out)
      go_wp2_with fail
      refine cP.out.mono ?_
      rintro e w6 ⟨⟨l, rfl, hll⟩, _, hP6⟩
      have hsz5 := HB5.out.size
      have HB6 := hid (HB5.out.trans (hP6.toBelow hsz5 (Nat.le_refl _)))
      have cX := hid (hEx.out ⟨l.toArray⟩ (by show l.length ≤ 1000; omega) w6 HB6.out)
      clear hP6 cP
      go_wp2_with fail
      refine cX.out.mono ?_
      rintro e w7 ⟨rfl, hb7⟩
      have HB7 := hid (HB6.out.trans (hb7.mono HB6.out.size))
      clear hb7
      go_wp2
      go_ret
      exact ⟨rfl, HB7.out⟩
    · have z0' : (z == 0) = false := by simpa using z0
      by_cases z1 : z = 1
      · subst z1
        obtain ⟨SL, hSL⟩ : ∃ SL : Array Value, #[Value.string ⟨#[111, 100, 100]⟩, .string ⟨#[101, 118, 101, 110]⟩, .string ⟨#[102, 105, 114, 115, 116]⟩, .string ⟨#[115, 101, 99, 111, 110, 100]⟩, .string ⟨#[97, 108, 108]⟩, .string ⟨#[49, 45, 50]⟩, .string ⟨#[50, 48]⟩] = SL := ⟨_, rfl⟩
        have hw7 := words7
        rw [hSL] at hw7
        have HW7 := hid hw7
        have HSL := hid hSL
        have hsz5 := HB5.out.size
        have hgl5 := HD5.out.lt
        have hba : Below w5.heap.size w5 (w5.alloc (.cells SL 9)) := (Below.refl _ w5).alloc (Nat.le_refl _) _
        have hd6 := HD5.out.below hba hgl5
        have hnew : (w5.alloc (.cells SL 9)).heap[w5.heap.size]? = some (.cells SL 9 (0, 0)) := heap_alloc_new w5 _
        have HB6 := hid (HB5.out.trans (hba.mono hsz5))
        have HNEW := hid hnew
        have cN := HN.out _ _ 7 (by omega) hd6
        obtain ⟨y, hy⟩ : ∃ y, rollV L (rollK L k3) 7 = y := ⟨_, rfl⟩
        have hyr := rollV_range L (rollK L k3) 7 (by omega)
        rw [hy] at cN hyr
        obtain ⟨j, rfl⟩ : ∃ j : Nat, y = (j : Int) := ⟨y.toNat, by omega⟩
        have hj7 : j < 7 := by omega
        obtain ⟨T, hTl, hTj⟩ := HW7.out j hj7
        have HTJ := hid hTj
        have CN := hid cN
        have a1 : ∀ w, (Op.stringOp .add (⟨#[44]⟩ : ByteArray) T).run Tryd.prog w = .ok (.string (⟨#[44]⟩ ++ T)) w := fun w => run_string_add_sum (w := w) _ _ (by rw [show (⟨#[44]⟩ : ByteArray).size = 1 from rfl]; omega)
        have hXl : ((⟨#[44]⟩ : ByteArray) ++ T).size ≤ 7 := by rw [ByteArray.size_append, show (⟨#[44]⟩ : ByteArray).size = 1 from rfl]; omega
        obtain ⟨X, hX⟩ : ∃ X, (⟨#[44]⟩ : ByteArray) ++ T = X := ⟨_, rfl⟩
        rw [hX] at a1 hXl
        have a2 : ∀ w, (Op.stringOp .add F X).run Tryd.prog w = .ok (.string (F ++ X)) w := fun w => run_string_add_sum (w := w) _ _ (by omega)
        have hYl : (F ++ X).size ≤ 1000 := by rw [ByteArray.size_append]; omega
        obtain ⟨Y, hY⟩ : ∃ Y, F ++ X = Y := ⟨_, rfl⟩
        rw [hY] at a2 hYl
        clear hSL hw7 hd6 hnew hy hyr cN hTj hX hY hba
        go_wp2_with fail
        rw [HSL.out]
        refine CN.out.mono ?_
        rintro e w6 ⟨rfl, hd6, hR6⟩
        have HB7 := hid (HB6.out.trans (hR6.below (Nat.le_refl _)))
        have hcj : w6.cell? ⟨w5.heap.size, j, none⟩ = some (.string T) := by
          rw [hR6.cells w5.heap.size j (by omega), Lib.cell_of_heap HNEW.out]
          exact HTJ.out
        have cX := hid (hEx.out Y hYl w6 HB7.out)
        clear hd6 hR6 CN
        go_wp2_with fail
        refine cX.out.mono ?_
        rintro e w7 ⟨rfl, hb7⟩
        have HB8 := hid (HB7.out.trans (hb7.mono HB7.out.size))
        clear hb7
        go_wp2
        go_ret
        exact ⟨rfl, HB8.out⟩
      · have z1' : (z == 1) = false := by simpa using z1
        have cX := hid (hEx.out F (by omega) w5 HB5.out)
        go_wp2_with fail
        refine cX.out.mono ?_
        rintro e w7 ⟨rfl, hb7⟩
        have HB7 := hid (HB5.out.trans (hb7.mono HB5.out.size))
        clear hb7
        go_wp2
        go_ret
        exact ⟨rfl, HB7.out⟩
  · rw [decide_eq_false hl] at cL
    clear hE hWd h
    go_enter Tryd.func4, Tryd.ntmps4
    go_wp2_with fail
    refine cL.mono ?_
    rintro e w' ⟨rfl, rfl⟩
    go_wp2_with fail
    refine (awake_any _ HE.out).mono ?_
    rintro e w1 ⟨rfl, hb1⟩
    have HB1 := hid hb1
    clear hb1
    go_wp2
    go_ret
    exact ⟨rfl, HB1.out⟩
end Go.Proofs.YtmmphjpakoimcaaDoor
