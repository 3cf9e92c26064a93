/-
  The walk of the statement CharsetEncodes: it returns true. Conditions: the string has at most 140737488351232 bytes; the library's two tables hold what their initialisers lay.
-/
import Derived.Test.YtcjomjhaimlbmaaDoorAwake
import Derived.Test.YtcjomjhaimlbmaaDoorREnc
namespace Go.Proofs.YtcjomjhaimlbmaaDoor
open Go Go.Proofs Go.RowKit Go.Lib

theorem refEncode_any (s : ByteArray) (k : Int) (hs : s.size ≤ 140737488351232) (w : World) :
    Calls Tryd.prog 13 #[.string s, .int .i64 k] w (Enc3 w (resE k s.data.toList) (errE k s.data.toList)) := by
  by_cases hk : k = 1 ∨ k = 2 ∨ k = 3
  · rcases hk with rfl | rfl | rfl
    · exact refEncode_1 s hs w
    · exact refEncode_2 s hs w
    · exact refEncode_3 s hs w
  · obtain ⟨he, hr⟩ := errE_unknown k s.data.toList hk
    rw [he, hr]
    exact refEncode_unknown s k (by omega) w

set_option maxHeartbeats 2000000 in
theorem encodes_any (s : ByteArray) (k : Int) (hs : s.size ≤ 140737488351232) (w : World) (hT : Lib.Utf8Tabs 0 1 w) :
    Calls Tryd.prog 4 #[.string s, .int .i64 k] w fun e w' => e = .returned (.bool true) ∧ Below w.heap.size w w' := by
  have cE := encode_any s k hs w hT
  have cR := fun w1 => refEncode_any s k hs w1
  obtain ⟨R, hR⟩ : ∃ R, resE k s.data.toList = R := ⟨_, rfl⟩
  obtain ⟨E, hE⟩ : ∃ E, errE k s.data.toList = E := ⟨_, rfl⟩
  simp only [hR, hE] at cE cR
  have CE := hid cE
  have CR := hid cR
  have HT := hid hT
  clear cE cR hR hE hT
  go_enter Tryd.func4, Tryd.ntmps4
  go_wp2_with fail
  refine CE.out.mono ?_
  rintro e w1 ⟨A1, c1, rfl, hB1, _, _, hb1⟩
  go_wp2_with fail
  refine (CR.out w1).mono ?_
  rintro e w2 ⟨A2, c2, rfl, hB2, _, _, hb2⟩
  have hb12 : Below w.heap.size w w2 := hb1.trans (hb2.mono hb1.size)
  have hT2 := Utf8Tabs_below HT.out hb12
  have hB1' := hB1.below hb2
  clear hB1 hb1
  go_wp2_with fail
  refine (awake_any w2 hT2).mono ?_
  rintro e w3 ⟨rfl, hb3⟩
  have hb13 : Below w.heap.size w w3 := hb12.trans (hb3.mono hb12.size)
  have k1 := (hB1'.below (hb3.mono hb2.size)).convert (P := Tryd.prog) c1 22 5 9 Tryd.underlying22 Tryd.underlying5 Tryd.underlying9
  have k2 := (hB2.below hb3).convert (P := Tryd.prog) c2 22 5 9 Tryd.underlying22 Tryd.underlying5 Tryd.underlying9
  clear hB1' hB2 hT2 hb12 hb2 hb3
  go_wp2
  go_ret
  exact ⟨rfl, hb13⟩
end Go.Proofs.YtcjomjhaimlbmaaDoor
