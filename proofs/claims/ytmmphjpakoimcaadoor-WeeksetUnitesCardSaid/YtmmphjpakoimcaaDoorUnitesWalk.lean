/-
  The walk of WeeksetUnites. Conditions: the variables hold what their text lays.
-/
import Derived.Test.YtmmphjpakoimcaaDoorReturnsWalk
set_option linter.unusedVariables false
namespace Go.Proofs.YtmmphjpakoimcaaDoor
open Go Go.Proofs Go.RowKit Go.Lib

set_option maxHeartbeats 8000000 in
set_option maxRecDepth 100000 in
theorem unites_any (X Y N : Int) (w : World) (hE : Env w) (hWd : Words w) : Calls Tryd.prog 7 #[.int .i64 X, .int .i64 Y, .int .i64 N] w fun e w' => e = .returned (.bool true) ∧ Below w.heap.size w w' := by
  have cM := mod_any N 20 (by omega)
  obtain ⟨m, hm, hm19⟩ := mod_weeks N
  rw [hm] at cM
  obtain ⟨n, hn⟩ : ∃ n, m + 1 = n := ⟨_, rfl⟩
  have hn1 : 1 ≤ n := by omega
  have hn2 : n ≤ 20 := by omega
  have hni : 1 + (m : Int) = (n : Int) := by omega
  have hp := powI n hn2
  have cS := mod_any X ((2 : Int) ^ n - 1) (by omega)
  obtain ⟨q, hq, hql⟩ := mod_set X n hn1 hn2
  rw [hq] at cS
  obtain ⟨s, hs⟩ : ∃ s, 1 + q = s := ⟨_, rfl⟩
  rw [hs] at hql
  have hs1 : 1 ≤ s := by omega
  have hsi : 1 + (q : Int) = (s : Int) := by omega
  have cT := mod_any Y ((2 : Int) ^ n - 1) (by omega)
  obtain ⟨r, hr, hrl⟩ := mod_set Y n hn1 hn2
  rw [hr] at cT
  obtain ⟨t, ht⟩ : ∃ t, 1 + r = t := ⟨_, rfl⟩
  rw [ht] at hrl
  have ht1 : 1 ≤ t := by omega
  have hti : 1 + (r : Int) = (t : Int) := by omega
  have hss : s < 1048576 := Nat.lt_of_lt_of_le hql (pow_le hn2)
  have hts : t < 1048576 := Nat.lt_of_lt_of_le hrl (pow_le hn2)
  have cF := hid (fun w h => rform_call hs1 hql hn1 hn2 w h)
  have cG := hid (fun w h => rform_call ht1 hrl hn1 hn2 w h)
  have hf := form_len (s := s) (n := n)
  have hg := form_len (s := t) (n := n)
  have cP := hid (fun w h => parse_call (parse_two hs1 hql ht1 hrl hn1 hn2) (by rw [List.length_append, List.length_cons]; omega) w h)
  have hor := bw_or s t (by omega) (by omega)
  have a1 := add_ba (formN s n) [44] (by rw [List.length_singleton]; omega)
  have a2 := add_ba (formN s n ++ [44]) (formN t n) (by rw [List.length_append, List.length_singleton]; omega)
  rw [List.append_assoc, List.singleton_append] at a2
  rw [show ba [44] = (⟨#[44]⟩ : ByteArray) from rfl] at a1
  obtain ⟨F, hF⟩ : ∃ F, ba (formN s n) = F := ⟨_, rfl⟩
  obtain ⟨G, hG⟩ : ∃ G, ba (formN t n) = G := ⟨_, rfl⟩
  obtain ⟨F1, hF1⟩ : ∃ F1, ba (formN s n ++ [44]) = F1 := ⟨_, rfl⟩
  obtain ⟨FG, hFG⟩ : ∃ FG, ba (formN s n ++ 44 :: formN t n) = FG := ⟨_, rfl⟩
  rw [hF] at cF a1
  rw [hG] at cG a2
  rw [hF1] at a1 a2
  rw [hFG] at a2 cP
  obtain ⟨O, hO⟩ : ∃ O, s ||| t = O := ⟨_, rfl⟩
  rw [hO] at cP hor
  have hbb : ((O : Int) == (O : Int)) = true := by simp
  have HE := hid hE
  have HWd := hid hWd
  have h6 := hE.size
  have CM := hid cM
  have CS := hid cS
  have CT := hid cT
  clear hE hWd cM cS cT hm hq hn hs hr ht hF hG hF1 hFG hO hf hg
  go_enter Tryd.func7, Tryd.ntmps7
  go_wp2_with fail
  refine (CM.out _).mono ?_
  rintro e w' ⟨rfl, rfl⟩
  go_wp2_with fail
  refine (CS.out _).mono ?_
  rintro e w' ⟨rfl, rfl⟩
  go_wp2_with fail
  refine (CT.out _).mono ?_
  rintro e w' ⟨rfl, rfl⟩
  go_wp2_with fail
  refine (cF.out _ HWd.out).mono ?_
  rintro e w1 ⟨rfl, hb1⟩
  have HB1 := hid hb1
  clear hb1
  go_wp2_with fail
  refine (cG.out _ (HWd.out.below HB1.out h6)).mono ?_
  rintro e w2 ⟨rfl, hb2⟩
  have HB2 := hid (HB1.out.trans (hb2.mono HB1.out.size))
  clear hb2
  go_wp2_with fail
  refine (cP.out _ (HE.out.below HB2.out h6)).mono ?_
  rintro e w3 ⟨rfl, hb3⟩
  have HB3 := hid (HB2.out.trans (hb3.mono HB2.out.size))
  clear hb3
  go_wp2_with fail
  refine (awake_any _ (HE.out.below HB3.out h6)).mono ?_
  rintro e w5 ⟨rfl, hb5⟩
  have HB5 := hid (HB3.out.trans (hb5.mono HB3.out.size))
  clear hb5
  go_wp2
  go_ret
  exact ⟨rfl, HB5.out⟩
end Go.Proofs.YtmmphjpakoimcaaDoor
