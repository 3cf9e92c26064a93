/-
  What timetablemade.Dice.Text returns: at most so many of some signs. Conditions: the dice lie in memory; the signs are between one and 1000.
-/
import Derived.Test.YtcpkefjijinhiaaDoorText
set_option linter.unusedVariables false
namespace Go.Proofs.YtcpkefjijinhiaaDoor
open Go Go.Proofs Go.RowKit Go.Lib

set_option maxHeartbeats 2000000 in
set_option maxRecDepth 100000 in
theorem text_any (g c k : Nat) (A : Option Addr) (L : List Int) (signs : ByteArray) (most : Int) (hs1 : 1 ≤ signs.size) (hs2 : signs.size ≤ 1000) (hm0 : 0 ≤ most) (hm : most ≤ 1000) (w : World) (h : DiceAt w g A L c k) :
    Calls Tryd.prog 17 #[.pointer (some ⟨g, 0, none⟩), .string signs, .int .i64 most] w fun e w' => (∃ l : List UInt8, e = .returned (.string ⟨l.toArray⟩) ∧ (l.length : Int) ≤ most ∧ ∀ u ∈ l, u ∈ signs.data.toList) ∧ (∃ k', DiceAt w' g A L c k') ∧ Played w.heap.size g w w' := by
  have cN := next_any g c k A L (most + 1) (by omega) w h
  have hgl := h.lt
  have CN := hid cN
  clear cN h
  obtain ⟨i5, hi5, hz5, hsi5, hby5⟩ := info_parts infoByte
  go_enter Tryd.func17, Tryd.ntmps17
  go_wp2_with fail
  refine CN.out.mono ?_
  rintro e w1 ⟨⟨r, rfl, hr⟩, ⟨k1, hd⟩, hR⟩
  obtain ⟨hr0, hr1⟩ := hr (by omega)
  have hP := (Played.refl w.heap.size g w).rolled hR
  have HD := hid hd
  have HP := hid hP
  have hsz1 := hR.size
  clear hd hP hR hr
  go_wp2
  go_loopw [7, 8] (fun v n wr => ∃ (acc : List UInt8) (i : Int), n = .int .i64 i ∧ 0 ≤ i ∧ (acc.length : Int) + i ≤ most ∧ wr.ownsRow w.heap.size 5 1 v acc.length (byteCells acc) ∧ (∃ k', DiceAt wr g A L c k') ∧ Played w.heap.size g w wr ∧ ∀ u ∈ acc, u ∈ signs.data.toList) (fun _ n _ => (RowKit.intOf n).toNat)
  case atStart => exact ⟨[], r, rfl, hr0, by simp; omega, World.ownsRow_nil _ _ _ _, ⟨k1, HD.out⟩, HP.out, fun u hu => by simp at hu⟩
  case round =>
    obtain ⟨acc, i, rfl, hi0, hil, hov, ⟨k', hd⟩, hP, hmem⟩ := hrel
    by_cases hi : 0 < i
    · have cN := next_any g c k' A L (signs.size : Int) (by omega) wr hd
      have HOV := hid hov
      have CN := hid cN
      have HPP := hid hP
      have HM := hid hmem
      clear cN hd hP hov HD HP hmem
      go_wp2_with fail
      refine CN.out.mono ?_
      rintro e w2 ⟨⟨r2, rfl, hr2⟩, ⟨k2, hd2⟩, hR2⟩
      obtain ⟨hr20, hr21⟩ := hr2 (by omega)
      obtain ⟨m, rfl⟩ : ∃ m : Nat, r2 = (m : Int) := ⟨r2.toNat, by omega⟩
      have hmlt : m < signs.size := by omega
      have hov2 := hR2.row HOV.out (by
        intro e
        have := (HOV.out.lt g e).1
        omega)
      have hP2 := HPP.out.rolled hR2
      have hszW : w.heap.size ≤ w2.heap.size := hP2.size
      obtain ⟨x, hx⟩ : ∃ x, signs[m]'hmlt = x := ⟨_, rfl⟩
      have hxm : x ∈ signs.data.toList := by
        rw [← hx]
        exact Array.mem_toList_iff.2 (Array.getElem_mem _)
      have HC3 : Hid (acc.length + 1 ≤ maxLen) := by unfold maxLen; exact hid (by omega)
      have HC4 : Hid ((acc.length + 1) * 1 ≤ 140737488355328) := hid (by omega)
      have HC5 : Hid (∀ o : Obj, w.heap.size ≤ (w2.alloc o).heap.size) := hid (fun o => by simp; omega)
      have HD2 := hid hd2
      have HP2 := hid hP2
      clear hr2 hd2 hP2 hR2
      go_wp2_with (at_builtin; refine wpList_append_own _ rfl _ _ 61 rfl w.heap.size 5 i5 (.int .u8 0) 1 1 Tryd.underlying61 hi5 hz5 hsi5 hby5 rfl (by decide) _ acc.length (byteCells acc) rfl (hov2.alloc _) ⟨w2.heap.size, 0, none⟩ 1 1 [.int .u8 (x.toNat : Int)] rfl rfl (one_new _ _ _) (one_one _ _) HC3.out HC4.out (HC5.out _) ?_)
      intro v' w3 hown' hgrow _
      have hg' := grownBy_of_alloc hgrow
      have hb23 : Below w.heap.size w2 w3 := (Below.refl _ w2).grown hg' hszW (fun k hk => (hov2.lt k hk).1)
      go_wp2
      go_roundw
      case rel =>
        refine ⟨acc ++ [x], i - 1, by go_num, by omega, by simp; omega, ?_, ⟨k2, HD2.out.below hb23 hgl⟩, HP2.out.below hb23, fun u hu => ?_⟩
        · rw [byteCells_app, List.length_append]
          exact hown'
        · rcases List.mem_append.1 hu with hu | hu
          · exact HM.out u hu
          · simp at hu; subst hu; exact hxm
      case measure => simp [RowKit.intOf]; omega
    · have hcv := row_string (P := Tryd.prog) hov 61 5 9 Tryd.underlying61 Tryd.underlying5 Tryd.underlying9
      have hlen : (acc.length : Int) ≤ most := by omega
      go_wp2
      go_ret
      exact ⟨⟨acc, rfl, hlen, fun u hu => by simpa using hmem u hu⟩, ⟨k', hd⟩, hP⟩
end Go.Proofs.YtcpkefjijinhiaaDoor
