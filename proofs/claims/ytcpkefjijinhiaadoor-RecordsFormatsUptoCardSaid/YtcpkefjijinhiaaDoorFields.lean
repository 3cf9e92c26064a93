/-
  What timetablemade.Dice.Fields returns: at most five records of one to five fields of at most six signs. Conditions: the dice lie in memory.
-/
import Derived.Test.YtcpkefjijinhiaaDoorStrs
set_option linter.unusedVariables false
namespace Go.Proofs.YtcpkefjijinhiaaDoor
open Go Go.Proofs Go.RowKit Go.Lib

/-- Records as Fields makes them. -/
def MadeRow (l : List Str) : Prop := 1 ≤ l.length ∧ l.length ≤ 5 ∧ ∀ s ∈ l, s.length ≤ 6
theorem StrRow.played {B F g : Nat} {a w : World} {v : Value} {l : List Str} (hr : StrRow a B v l) (h : Played F g a w) (hg : g < B) (hF : a.heap.size ≤ F) : StrRow w B v l :=
  h.row hr (fun k hk => by have := hr.lt k hk; omega)
theorem StrRow.rolled {B g : Nat} {a w : World} {v : Value} {l : List Str} (hr : StrRow a B v l) (h : Rolled g a w) (hg : g < B) : StrRow w B v l :=
  h.row hr (fun e => by have := hr.lt g e; omega)
theorem StrRow.one {B : Nat} {w : World} {v : Value} {l : List Str} (hr : StrRow w B v l) : ∀ u ∈ [v], u.oneCell' = true := by
  intro u hu
  simp at hu
  subst hu
  rcases hr.2 with ⟨h, _⟩ | ⟨g, cap, cur, h, _⟩ <;> rw [h] <;> rfl
theorem one_str (s : ByteArray) : ∀ u ∈ [Value.string s], u.oneCell' = true := by
  intro u hu
  simp at hu
  subst hu
  rfl

/-- What Fields hands back: rows of the call's own. -/
def FieldsOut (g c : Nat) (A : Option Addr) (L : List Int) (w : World) (e : Ending) (w' : World) : Prop :=
  (∃ v vs ls, e = .returned v ∧ w'.ownsRow w.heap.size 45 1 v vs.length vs ∧ StrRows w' w.heap.size vs ls ∧ ls.length ≤ 5 ∧ ∀ l ∈ ls, MadeRow l) ∧ (∃ k', DiceAt w' g A L c k') ∧ Played w.heap.size g w w'

set_option maxHeartbeats 4000000 in
set_option maxRecDepth 100000 in
theorem fields_any (g c k : Nat) (A : Option Addr) (L : List Int) (w : World) (h : DiceAt w g A L c k) :
    Calls Tryd.prog 19 #[.pointer (some ⟨g, 0, none⟩)] w (FieldsOut g c A L w) := by
  have cN := next_any g c k A L 6 (by omega) w h
  have hgl := h.lt
  have CN := hid cN
  clear cN h
  obtain ⟨i9, hi9, hz9, hsi9, hby9⟩ := info_parts infoStr
  obtain ⟨i45, hi45, hz45, hsi45, hby45⟩ := info_parts infoStrs
  go_enter Tryd.func19, Tryd.ntmps19
  go_wp2_with fail
  refine CN.out.mono ?_
  rintro e w1 ⟨⟨r, rfl, hr⟩, ⟨k1, hd⟩, hR⟩
  obtain ⟨hr0, hr1⟩ := hr (by omega)
  have hP := (Played.refl w.heap.size g w).rolled hR
  have HD := hid hd
  have HP := hid hP
  clear hd hP hR hr
  go_wp2
  go_loopw [3, 4] (fun v n wr => ∃ (vs : List Value) (ls : List (List Str)) (i : Int), n = .int .i64 i ∧ 0 ≤ i ∧ (ls.length : Int) + i ≤ 5 ∧ wr.ownsRow w.heap.size 45 1 v vs.length vs ∧ StrRows wr w.heap.size vs ls ∧ (∀ l ∈ ls, MadeRow l) ∧ (∃ k', DiceAt wr g A L c k') ∧ Played w.heap.size g w wr) (fun _ n _ => (RowKit.intOf n).toNat)
  case atStart => exact ⟨[], [], r, rfl, hr0, by simp; omega, World.ownsRow_nil _ _ _ _, StrRows.nil _ _, fun l hl => by simp at hl, ⟨k1, HD.out⟩, HP.out⟩
  case round =>
    obtain ⟨vs, ls, i, rfl, hi0, hil, hov, hsr, hgood, ⟨k', hd⟩, hP⟩ := hrel
    by_cases hi : 0 < i
    · have cN := next_any g c k' A L 5 (by omega) wr hd
      have HOV := hid hov
      have HSR := hid hsr
      have HG := hid hgood
      have CN := hid cN
      have HPP := hid hP
      clear cN hd hP hov hsr hgood HD HP
      go_wp2_with fail
      refine CN.out.mono ?_
      rintro e w2 ⟨⟨r2, rfl, hr2⟩, ⟨k2, hd2⟩, hR2⟩
      obtain ⟨hr20, hr21⟩ := hr2 (by omega)
      have hP2 := HPP.out.rolled hR2
      have hov2 := hR2.row HOV.out (by
        intro e
        have := (HOV.out.lt g e).1
        omega)
      have hsr2 : StrRows w2 w.heap.size vs ls := HSR.out.kept fun v l hv => hv.rolled hR2 hgl
      have hszW : w.heap.size ≤ w2.heap.size := hP2.size
      have HOV2 := hid hov2
      have HSR2 := hid hsr2
      have HP2 := hid hP2
      have HD2 := hid hd2
      clear hr2 hd2 hP2 hR2 hov2 hsr2 HOV HSR HPP CN
      go_wp2
      go_loopw [5, 6] (fun f n wr2 => ∃ (acc : List Str) (j : Int), n = .int .i64 j ∧ 0 ≤ j ∧ j + (acc.length : Int) = 1 + r2 ∧ StrRow wr2 w2.heap.size f acc ∧ (∀ s ∈ acc, s.length ≤ 6) ∧ (∃ k', DiceAt wr2 g A L c k') ∧ Played w2.heap.size g w2 wr2) (fun _ n _ => (RowKit.intOf n).toNat)
      case atStart => exact ⟨[], 1 + r2, by go_num, by omega, by simp, World.ownsRow_nil _ _ _ _, fun s hs => by simp at hs, ⟨k2, HD2.out⟩, Played.refl _ _ _⟩
      case round =>
        obtain ⟨acc, j, rfl, hj0, hjl, hst, hacc, ⟨k3, hd3⟩, hP3⟩ := hrel
        by_cases hj : 0 < j
        · have cT := text_any g c k3 A L ⟨#[97, 98, 44, 59, 34, 39, 35, 32, 10, 13]⟩ 6 (by decide) (by decide) (by omega) (by omega) wr hd3
          have CT := hid cT
          have HST := hid hst
          have HA := hid hacc
          have HP3 := hid hP3
          clear cT hd3 hst hacc hP3
          go_wp2_with fail
          refine CT.out.mono ?_
          rintro e w4 ⟨⟨l, rfl, hl6, _⟩, ⟨k4, hd4⟩, hP4⟩
          have hszF : w2.heap.size ≤ w4.heap.size := Nat.le_trans HP3.out.size hP4.size
          have hst4 : StrRow w4 w2.heap.size _ acc := HST.out.played hP4 (by omega) (Nat.le_refl _)
          have hPP := HP3.out.trans hP4 HP3.out.size
          have HC3 : Hid (acc.length + 1 ≤ maxLen) := by unfold maxLen; exact hid (by omega)
          have HC4 : Hid ((acc.length + 1) * 16 ≤ 140737488355328) := hid (by omega)
          have HC5 : Hid (∀ o : Obj, w2.heap.size ≤ (w4.alloc o).heap.size) := hid (fun o => by simp; omega)
          have HD4 := hid hd4
          have HPP := hid hPP
          clear hd4 hP4 hPP
          go_wp2_with (at_builtin; refine wpList_append_own _ rfl _ _ 45 rfl w2.heap.size 9 i9 (.string ⟨#[]⟩) 1 16 Tryd.underlying45 hi9 hz9 hsi9 hby9 rfl (by decide) _ acc.length (strVals acc) rfl (World.ownsRow.alloc hst4 _) ⟨w4.heap.size, 0, none⟩ 1 1 [strV l] rfl rfl (one_new _ _ _) (one_str _) HC3.out HC4.out (HC5.out _) ?_)
          intro v' w5 hown' hgrow _
          have hg' := grownBy_of_alloc hgrow
          have hb45 : Below w2.heap.size w4 w5 := (Below.refl _ w4).grown hg' hszF (fun k hk => (World.ownsRow.lt hst4 k hk).1)
          go_wp2
          go_roundw
          case rel =>
            refine ⟨acc ++ [l], j - 1, by go_num, by omega, by simp; omega, ?_, fun s hs => ?_, ⟨k4, HD4.out.below hb45 (by omega)⟩, HPP.out.below hb45⟩
            · unfold StrRow
              rw [strVals_app, List.length_append]
              exact hown'
            · rcases List.mem_append.1 hs with hs | hs
              · exact HA.out s hs
              · simp at hs; subst hs; omega
          case measure => simp [RowKit.intOf]; omega
        · have hlen : (acc.length : Int) = 1 + r2 := by omega
          obtain ⟨Af, cf, rfl, _, _, _⟩ := hst.strsIn
          have hst' := hst.mono hszW
          have hov3 := hP3.row HOV2.out (fun k hk => by have := HOV2.out.lt k hk; omega)
          have hsr3 : StrRows wr w.heap.size vs ls := HSR2.out.kept fun v l hv => hv.played hP3 hgl (Nat.le_refl _)
          have hPP := HP2.out.trans hP3 hszW
          have hszB : w.heap.size ≤ wr.heap.size := hPP.size
          have HC3 : Hid (vs.length + 1 ≤ maxLen) := by have := HSR2.out.1; unfold maxLen; exact hid (by omega)
          have HC4 : Hid ((vs.length + 1) * 24 ≤ 140737488355328) := by have := HSR2.out.1; exact hid (by omega)
          have HC5 : Hid (∀ o : Obj, w.heap.size ≤ (wr.alloc o).heap.size) := hid (fun o => by simp; omega)
          have HD3 := hid hd3
          have HPP := hid hPP
          have HSR3 := hid hsr3
          have HST := hid hst'
          have HA := hid hacc
          clear hd3 hPP hsr3 hst hacc hP3 HSR2 HP2 HD2
          go_wp2_with (at_builtin; refine wpList_append_own _ rfl _ _ 37 rfl w.heap.size 45 i45 (.slice none 0 0) 1 24 Tryd.underlying37 hi45 hz45 hsi45 hby45 rfl (by decide) _ vs.length vs rfl (hov3.alloc _) ⟨wr.heap.size, 0, none⟩ 1 1 [_] rfl rfl (one_new _ _ _) HST.out.one HC3.out HC4.out (HC5.out _) ?_)
          intro v' w5 hown' hgrow _
          have hg' := grownBy_of_alloc hgrow
          have hb45 : Below w.heap.size wr w5 := (Below.refl _ wr).grown hg' hszB (fun k hk => (hov3.lt k hk).1)
          have hkeep : ∀ v l, StrRow wr w.heap.size v l → StrRow w5 w.heap.size v l := fun v l hv => World.ownsRow.kept hv hg' (rows_apart hv hov3 (by decide))
          have hsr5 := (HSR3.out.kept hkeep).snoc (hkeep _ _ HST.out)
          have HSR5 := hid hsr5
          clear hkeep hsr5
          go_wp2
          go_roundw
          case rel =>
            refine ⟨_, ls ++ [acc], i - 1, by go_num, by omega, by simp; omega, ?_, HSR5.out, fun l hl => ?_, ⟨k3, HD3.out.below hb45 hgl⟩, HPP.out.below hb45⟩
            · rw [List.length_append]
              exact hown'
            · rcases List.mem_append.1 hl with hl | hl
              · exact HG.out l hl
              · simp at hl; subst hl; exact ⟨by omega, by omega, HA.out⟩
          case measure => simp [RowKit.intOf]; omega
    · go_wp2
      go_ret
      exact ⟨⟨_, vs, ls, rfl, hov, hsr, by omega, hgood⟩, ⟨k', hd⟩, hP⟩
end Go.Proofs.YtcpkefjijinhiaaDoor
