/-
  The walk of CodesOrders: Compare orders the strings totally, at any three strings. Conditions: the library's variables hold what its text lays; the strings' sizes are sizes.
-/
import Derived.Test.YtldnbneblpebiaaGreatDoorAwake
set_option linter.unusedVariables false
namespace Go.Proofs.YtldnbneblpebiaaGreatDoor
open Go Go.Proofs Go.RowKit Go.Lib

/-- What the law reads of the four numbers. -/
structure OrdC (a b : ByteArray) (x y z u : Int) (e : Bool) : Prop where
  neg : x = -u
  zero : decide (x = 0) = e
  range : x = -1 ∨ x = 0 ∨ x = 1
  chain : x ≤ 0 → y ≤ 0 → z ≤ 0

set_option maxHeartbeats 8000000 in
set_option maxRecDepth 100000 in
theorem orders_walk (a b c : ByteArray) (x y z u : Int) (e : Bool) (hx : OrdC a b x y z u e) (h1 : (a.toList == b.toList) = e)
    (w : World) (hE : Env w) (cab : ∀ w, Calls Tryz.prog 12 #[.string a, .string b] w fun e w' => e = .returned (.int .i64 x) ∧ Below w.heap.size w w')
    (cbc : ∀ w, Calls Tryz.prog 12 #[.string b, .string c] w fun e w' => e = .returned (.int .i64 y) ∧ Below w.heap.size w w')
    (cac : ∀ w, Calls Tryz.prog 12 #[.string a, .string c] w fun e w' => e = .returned (.int .i64 z) ∧ Below w.heap.size w w')
    (cba : ∀ w, Calls Tryz.prog 12 #[.string b, .string a] w fun e w' => e = .returned (.int .i64 u) ∧ Below w.heap.size w w') :
    Calls Tryz.prog 4 #[.string a, .string b, .string c] w fun e w' => e = .returned (.bool true) ∧ Below w.heap.size w w' := by
  have CAB := hid cab
  have CBC := hid cbc
  have CAC := hid cac
  have CBA := hid cba
  have HE := hid hE
  clear cab cbc cac cba hE
  obtain ⟨hn, hz, hr, hch⟩ := hx
  have HCH := hid hch
  clear hch
  obtain rfl : u = -x := by omega
  clear hn
  have h2 : (a.toList != b.toList) = !e := by rw [bne, h1]
  rcases hr with rfl | rfl | rfl
  all_goals (first | (have he : e = false := by rw [← hz]; rfl) | (have he : e = true := by rw [← hz]; rfl))
  all_goals subst he
  all_goals clear hz
  · by_cases hy : 0 < y
    · have hyd : decide (0 < y) = true := decide_eq_true hy
      have hyd2 : decide (y ≤ 0) = false := decide_eq_false (by omega)
      go_enter Tryz.func4, Tryz.ntmps4
      go_wp2_with fail
      refine (CAB.out _).mono ?_
      rintro e w1 ⟨rfl, hb1⟩
      have HB1 := hid hb1
      clear hb1
      go_wp2_with fail
      refine (CBC.out _).mono ?_
      rintro e w2 ⟨rfl, hb2⟩
      have HB2 := hid (HB1.out.trans (hb2.mono HB1.out.size))
      clear hb2 HB1
      go_wp2_with fail
      refine (CAC.out _).mono ?_
      rintro e w3 ⟨rfl, hb3⟩
      have HB3 := hid (HB2.out.trans (hb3.mono HB2.out.size))
      clear hb3 HB2
      go_wp2_with fail
      refine (CBA.out _).mono ?_
      rintro e w4 ⟨rfl, hb4⟩
      have HB4 := hid (HB3.out.trans (hb4.mono HB3.out.size))
      clear hb4 HB3
      go_wp2_with fail
      refine (awake_any _ (HE.out.below HB4.out)).mono ?_
      rintro e w5 ⟨rfl, hb5⟩
      have HB5 := hid (HB4.out.trans (hb5.mono HB4.out.size))
      clear hb5 HB4
      go_wp2
      go_ret
      exact ⟨by simp, HB5.out⟩
    · have hyd : decide (0 < y) = false := decide_eq_false hy
      have hyd2 : decide (y ≤ 0) = true := decide_eq_true (by omega)
      have hz0 : z ≤ 0 := HCH.out (by omega) (by omega)
      have hzd : decide (z ≤ 0) = true := decide_eq_true hz0
      go_enter Tryz.func4, Tryz.ntmps4
      go_wp2_with fail
      refine (CAB.out _).mono ?_
      rintro e w1 ⟨rfl, hb1⟩
      have HB1 := hid hb1
      clear hb1
      go_wp2_with fail
      refine (CBC.out _).mono ?_
      rintro e w2 ⟨rfl, hb2⟩
      have HB2 := hid (HB1.out.trans (hb2.mono HB1.out.size))
      clear hb2 HB1
      go_wp2_with fail
      refine (CAC.out _).mono ?_
      rintro e w3 ⟨rfl, hb3⟩
      have HB3 := hid (HB2.out.trans (hb3.mono HB2.out.size))
      clear hb3 HB2
      go_wp2_with fail
      refine (CBA.out _).mono ?_
      rintro e w4 ⟨rfl, hb4⟩
      have HB4 := hid (HB3.out.trans (hb4.mono HB3.out.size))
      clear hb4 HB3
      go_wp2_with fail
      refine (awake_any _ (HE.out.below HB4.out)).mono ?_
      rintro e w5 ⟨rfl, hb5⟩
      have HB5 := hid (HB4.out.trans (hb5.mono HB4.out.size))
      clear hb5 HB4
      go_wp2
      go_ret
      exact ⟨by simp, HB5.out⟩
  · by_cases hy : 0 < y
    · have hyd : decide (0 < y) = true := decide_eq_true hy
      have hyd2 : decide (y ≤ 0) = false := decide_eq_false (by omega)
      go_enter Tryz.func4, Tryz.ntmps4
      go_wp2_with fail
      refine (CAB.out _).mono ?_
      rintro e w1 ⟨rfl, hb1⟩
      have HB1 := hid hb1
      clear hb1
      go_wp2_with fail
      refine (CBC.out _).mono ?_
      rintro e w2 ⟨rfl, hb2⟩
      have HB2 := hid (HB1.out.trans (hb2.mono HB1.out.size))
      clear hb2 HB1
      go_wp2_with fail
      refine (CAC.out _).mono ?_
      rintro e w3 ⟨rfl, hb3⟩
      have HB3 := hid (HB2.out.trans (hb3.mono HB2.out.size))
      clear hb3 HB2
      go_wp2_with fail
      refine (CBA.out _).mono ?_
      rintro e w4 ⟨rfl, hb4⟩
      have HB4 := hid (HB3.out.trans (hb4.mono HB3.out.size))
      clear hb4 HB3
      go_wp2_with fail
      refine (awake_any _ (HE.out.below HB4.out)).mono ?_
      rintro e w5 ⟨rfl, hb5⟩
      have HB5 := hid (HB4.out.trans (hb5.mono HB4.out.size))
      clear hb5 HB4
      go_wp2
      go_ret
      exact ⟨by simp, HB5.out⟩
    · have hyd : decide (0 < y) = false := decide_eq_false hy
      have hyd2 : decide (y ≤ 0) = true := decide_eq_true (by omega)
      have hz0 : z ≤ 0 := HCH.out (by omega) (by omega)
      have hzd : decide (z ≤ 0) = true := decide_eq_true hz0
      go_enter Tryz.func4, Tryz.ntmps4
      go_wp2_with fail
      refine (CAB.out _).mono ?_
      rintro e w1 ⟨rfl, hb1⟩
      have HB1 := hid hb1
      clear hb1
      go_wp2_with fail
      refine (CBC.out _).mono ?_
      rintro e w2 ⟨rfl, hb2⟩
      have HB2 := hid (HB1.out.trans (hb2.mono HB1.out.size))
      clear hb2 HB1
      go_wp2_with fail
      refine (CAC.out _).mono ?_
      rintro e w3 ⟨rfl, hb3⟩
      have HB3 := hid (HB2.out.trans (hb3.mono HB2.out.size))
      clear hb3 HB2
      go_wp2_with fail
      refine (CBA.out _).mono ?_
      rintro e w4 ⟨rfl, hb4⟩
      have HB4 := hid (HB3.out.trans (hb4.mono HB3.out.size))
      clear hb4 HB3
      go_wp2_with fail
      refine (awake_any _ (HE.out.below HB4.out)).mono ?_
      rintro e w5 ⟨rfl, hb5⟩
      have HB5 := hid (HB4.out.trans (hb5.mono HB4.out.size))
      clear hb5 HB4
      go_wp2
      go_ret
      exact ⟨by simp, HB5.out⟩
  · go_enter Tryz.func4, Tryz.ntmps4
    go_wp2_with fail
    refine (CAB.out _).mono ?_
    rintro e w1 ⟨rfl, hb1⟩
    have HB1 := hid hb1
    clear hb1
    go_wp2_with fail
    refine (CBC.out _).mono ?_
    rintro e w2 ⟨rfl, hb2⟩
    have HB2 := hid (HB1.out.trans (hb2.mono HB1.out.size))
    clear hb2 HB1
    go_wp2_with fail
    refine (CAC.out _).mono ?_
    rintro e w3 ⟨rfl, hb3⟩
    have HB3 := hid (HB2.out.trans (hb3.mono HB2.out.size))
    clear hb3 HB2
    go_wp2_with fail
    refine (CBA.out _).mono ?_
    rintro e w4 ⟨rfl, hb4⟩
    have HB4 := hid (HB3.out.trans (hb4.mono HB3.out.size))
    clear hb4 HB3
    go_wp2_with fail
    refine (awake_any _ (HE.out.below HB4.out)).mono ?_
    rintro e w5 ⟨rfl, hb5⟩
    have HB5 := hid (HB4.out.trans (hb5.mono HB4.out.size))
    clear hb5 HB4
    go_wp2
    go_ret
    exact ⟨by simp, HB5.out⟩

theorem orders_any (a b c : ByteArray) (ha : a.size ≤ 9223372036854775807) (hb : b.size ≤ 9223372036854775807) (hc : c.size ≤ 9223372036854775807) (w : World) (hE : Env w) :
    Calls Tryz.prog 4 #[.string a, .string b, .string c] w fun e w' => e = .returned (.bool true) ∧ Below w.heap.size w w' := by
  refine orders_walk a b c (cmpM (lst a) (lst b)) (cmpM (lst b) (lst c)) (cmpM (lst a) (lst c)) (cmpM (lst b) (lst a)) (decide (cmpM (lst a) (lst b) = 0)) ⟨?_, rfl, cmpM_tot.rng _ _, cmpM_tot.trans _ _ _⟩ ?_ w hE
    (compare_any a b ha hb) (compare_any b c hb hc) (compare_any a c ha hc) (compare_any b a hb ha)
  · have := cmpM_tot.swap (lst a) (lst b)
    omega
  · rw [Lib.toList_data, Lib.toList_data]
    by_cases h : lst a = lst b
    · rw [decide_eq_true ((cmpM_zero _ _).2 h)]
      exact beq_iff_eq.2 h
    · rw [decide_eq_false (fun e => h ((cmpM_zero _ _).1 e))]
      exact beq_eq_false_iff_ne.2 h
end Go.Proofs.YtldnbneblpebiaaGreatDoor
