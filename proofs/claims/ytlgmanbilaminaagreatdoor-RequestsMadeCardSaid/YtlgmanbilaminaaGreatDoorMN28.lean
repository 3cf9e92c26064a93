/-
  What timetablemade.Dice.Spoil returns: a string of at most one byte more. Conditions: the dice lie in memory; the string has at most 10^8 bytes, the signs are between one and 1000.
-/
import Derived.Test.YtlgmanbilaminaaGreatDoorMN04
import Derived.StillTailTactics
import Derived.Deep.RegionLawGrows
import Derived.RangeFuncBox
set_option linter.unusedVariables false
namespace Go.Proofs.YtlgmanbilaminaaGreatDoor
open Go Go.Proofs Go.RowKit Go.Lib
def SpoilOut (g c : Nat) (A : Option Addr) (L : List Int) (s : ByteArray) (w : World) (e : Ending) (w' : World) : Prop :=
  (∃ l : (List UInt8), e = .returned (.string ⟨l.toArray⟩) ∧ l.length ≤ s.size + 1) ∧ (∃ k', DiceAt w' g A L c k') ∧ Played w.heap.size g w w'
def CellsAt (w : World) (b : Nat) (l : (List UInt8)) : Prop := ∀ (j : Nat) (u : UInt8), l[j]? = some u → w.cell? ⟨b, j, none⟩ = some (.int .u8 (u.toNat : Int))
theorem CellsAt.conv {P : Program} {w : World} {b : Nat} {l : (List UInt8)} (h : CellsAt w b l) (cap : Nat) (src e dst : TypeId) (hs : P.underlying src = some (.slice e)) (he : P.underlying e = some (.int .u8)) (hd : P.underlying dst = some .string) :
    (Go.convert src dst (.slice (some ⟨b, 0, none⟩) l.length cap)).run P w = .ok (.string ⟨l.toArray⟩) w := by
  refine run_convert_bytes_back w src dst e ⟨b, 0, none⟩ cap l hs he hd (fun j hj => ?_)
  rw [Addr.add_lit, Nat.zero_add]
  exact h j _ (List.getElem?_eq_getElem hj)
theorem CellsAt.kept {w w' : World} {b : Nat} {l : (List UInt8)} (h : CellsAt w b l) (hk : w'.heap[b]? = w.heap[b]?) : CellsAt w' b l :=
  fun j u hj => (World.cell?_of_block (w := w) hk).trans (h j u hj)
theorem CellsAt.set {w : World} {b : Nat} {l : (List UInt8)} (h : CellsAt w b l) (i : Nat) (x : UInt8) (hi : i < l.length) : CellsAt (w.setCell ⟨b, i, none⟩ (.int .u8 (x.toNat : Int))) b (l.set i x) := fun j u hj => by
  by_cases e : i = j
  · subst e
    rw [List.getElem?_set_self hi] at hj
    obtain rfl : x = u := by simpa using hj
    exact World.cell?_setCell_same w _ _ (h i _ (List.getElem?_eq_getElem hi))
  · rw [List.getElem?_set_ne e] at hj
    rw [World.cell?_setCell_other w ⟨b, i, none⟩ ⟨b, j, none⟩ _ (by intro e'; injection e' with _ e2 _; exact e e2)]
    exact h j u hj
theorem below_setCells {B b : Nat} (hB : B ≤ b) : ∀ (vs : List Value) (o : Nat) (w : World), Below B w (w.setCells b o vs)
  | [], _, w => Below.refl B w
  | v :: r, o, w => ((Below.refl B w).setCell (p := ⟨b, o, none⟩) hB v).trans (below_setCells hB r (o + 1) _)
theorem CellsAt.take {w : World} {b : Nat} {l : (List UInt8)} (h : CellsAt w b l) (i : Nat) : ∀ j u, (byteCells (l.take i))[j]? = some u → w.cell? ⟨b, 0 + j, none⟩ = some u := fun j u hj => by
  unfold byteCells at hj
  rw [List.getElem?_map] at hj
  obtain ⟨x, hx, rfl⟩ := Option.map_eq_some_iff.1 hj
  rw [Nat.zero_add]
  refine h j x ?_
  rw [List.getElem?_take] at hx
  split at hx
  · exact hx
  · simp at hx
theorem CellsAt.drop {w : World} {b : Nat} {l : (List UInt8)} (h : CellsAt w b l) (i : Nat) : ∀ j u, (byteCells (l.drop i))[j]? = some u → w.cell? ((⟨b, i, none⟩ : Addr).add j) = some u := fun j u hj => by
  unfold byteCells at hj
  rw [List.getElem?_map] at hj
  obtain ⟨x, hx, rfl⟩ := Option.map_eq_some_iff.1 hj
  rw [Addr.add_lit]
  refine h (i + j) x ?_
  rw [List.getElem?_drop] at hx
  exact hx
theorem CellsAt.shut {w : World} {b : Nat} {l : (List UInt8)} (h : CellsAt w b l) (i : Nat) (hi : i < l.length) : CellsAt (w.setCells b (0 + i * 1) (byteCells (l.drop (i + 1)))) b (l.take i ++ l.drop (i + 1)) := fun j u hj => by
  have hlen : (byteCells (l.drop (i + 1))).length = l.length - (i + 1) := by rw [byteCells_len, List.length_drop]
  have htk : (l.take i).length = i := by rw [List.length_take]; omega
  rcases Nat.lt_or_ge j i with hji | hji
  · rw [World.cell?_setCells_out b _ _ w ⟨b, j, none⟩ (fun _ _ => .inl (by show j < 0 + i * 1; omega))]
    rw [List.getElem?_append_left (by omega), List.getElem?_take, if_pos hji] at hj
    exact h j u hj
  · rw [List.getElem?_append_right (by omega), htk] at hj
    have hj1 : j - i < (l.drop (i + 1)).length := (List.getElem?_eq_some_iff.1 hj).1
    rw [List.length_drop] at hj1
    have hin := World.cell?_setCells_in b (byteCells (l.drop (i + 1))) (0 + i * 1) w (fun q hq => by
      rw [hlen] at hq
      rw [h (0 + i * 1 + q) _ (List.getElem?_eq_getElem (by omega))]
      rfl) (j - i) (by rw [hlen]; exact hj1)
    rw [show 0 + i * 1 + (j - i) = j by omega] at hin
    rw [hin]
    unfold byteCells
    rw [List.getElem_map]
    rw [List.getElem?_eq_getElem (by rw [List.length_drop]; exact hj1)] at hj
    injection hj with hj
    rw [hj]
theorem CellsAt.put {w : World} {b : Nat} {l : (List UInt8)} (h : CellsAt w b l) (i : Nat) (x : UInt8) (hi : i ≤ l.length) (hs : ∀ q, q < l.length - i + 1 → (w.cell? ⟨b, 0 + i * 1 + q, none⟩).isSome = true) :
    CellsAt (w.setCells b (0 + i * 1) (byteCells (x :: l.drop i))) b (l.take i ++ x :: l.drop i) := fun j u hj => by
  have hlen : (byteCells (x :: l.drop i)).length = l.length - i + 1 := by rw [byteCells_len, List.length_cons, List.length_drop]
  have htk : (l.take i).length = i := by rw [List.length_take]; omega
  rcases Nat.lt_or_ge j i with hji | hji
  · rw [World.cell?_setCells_out b _ _ w ⟨b, j, none⟩ (fun _ _ => .inl (by show j < 0 + i * 1; omega))]
    rw [List.getElem?_append_left (by omega), List.getElem?_take, if_pos hji] at hj
    exact h j u hj
  · rw [List.getElem?_append_right (by omega), htk] at hj
    have hj1 : j - i < (x :: l.drop i).length := (List.getElem?_eq_some_iff.1 hj).1
    have hj2 : j - i < l.length - i + 1 := by simpa using hj1
    have hin := World.cell?_setCells_in b (byteCells (x :: l.drop i)) (0 + i * 1) w (fun q hq => by rw [hlen] at hq; exact hs q hq) (j - i) (by rw [hlen]; exact hj2)
    rw [show 0 + i * 1 + (j - i) = j by omega] at hin
    rw [hin]
    unfold byteCells
    rw [List.getElem_map]
    rw [List.getElem?_eq_getElem hj1] at hj
    injection hj with hj
    rw [hj]
set_option maxHeartbeats 4000000 in
set_option maxRecDepth 100000 in
theorem spoil_any (g c k : Nat) (A : Option Addr) (L : List Int) (s signs : ByteArray) (hs : s.size ≤ 100000000) (hs1 : 1 ≤ signs.size) (hs2 : signs.size ≤ 1000) (w : World) (h : DiceAt w g A L c k) :
    Calls Tryz.prog 29 #[.pointer (some ⟨g, 0, none⟩), .string s, .string signs] w (SpoilOut g c A L s w) := by
  have k1 := run_bytes_of_string (P := Tryz.prog) w 9 59 5 s Tryz.underlying9 Tryz.underlying59 Tryz.underlying5
  have hgc := grownCap_ge w s.size 0 5
  have hgl := h.lt
  obtain ⟨G, hG⟩ : ∃ G, grownCap w s.size 0 5 = G := ⟨_, rfl⟩
  rw [hG] at k1 hgc
  obtain ⟨w1, hw1⟩ : ∃ w1, w.drew.alloc (.cells (bytesRow s G) 5 ((bytesRow s G).size, (bytesRow s G).size + 1)) = w1 := ⟨_, rfl⟩
  rw [hw1] at k1
  have hb1 : Below w.heap.size w w1 := by rw [← hw1]; exact ((Below.refl _ w).drew).alloc (Nat.le_refl _) _
  have hd1 := h.below hb1 hgl
  have hrow : w1.heap[w.heap.size]? = some (.cells (bytesRow s G) 5 ((bytesRow s G).size, (bytesRow s G).size + 1)) := by rw [← hw1]; exact heap_alloc_new w.drew _
  have cN := next_any g c k A L (signs.size : Int) (by omega) w1 hd1
  have CN := hid cN
  have HROW := hid hrow
  have HB1 := hid hb1
  clear hw1 hG cN hd1 h hrow hb1
  go_enter Tryz.func29, Tryz.ntmps29
  go_wp2_with fail
  refine CN.out.mono ?_
  rintro e w2 ⟨⟨r, rfl, hr⟩, ⟨k2, hd2⟩, hR2⟩
  obtain ⟨hr0, hr1⟩ := hr (by omega)
  obtain ⟨m, rfl⟩ : ∃ m : Nat, r = (m : Int) := ⟨r.toNat, by omega⟩
  have hmlt : m < signs.size := by omega
  obtain ⟨x, hx⟩ : ∃ x, signs[m]'hmlt = x := ⟨_, rfl⟩
  have hP2 := ((Played.refl w.heap.size g w).below HB1.out).rolled hR2
  have hrow2 := (hR2.block w.heap.size (by omega)).trans HROW.out
  have HP2 := hid hP2
  have HROW2 := hid hrow2
  clear hr hP2 hrow2 hR2 CN HB1 HROW
  by_cases h0 : s.size = 0
  · have h0b : ((s.size : Int) == 0) = true := by simp [h0]
    obtain ⟨w3, hw3⟩ : ∃ w3, w2.alloc (.cells #[.int .u8 (x.toNat : Int)] 5) = w3 := ⟨_, rfl⟩
    have hb3 : Below w2.heap.size w2 w3 := by rw [← hw3]; exact (Below.refl _ w2).alloc (Nat.le_refl _) _
    have hc3 : CellsAt w3 w2.heap.size [x] := fun j u hj => by
      rw [← hw3]
      match j, hj with
      | 0, hj => simp at hj; subst hj; simp
      | j + 1, hj => simp at hj
    have hcv := hc3.conv (P := Tryz.prog) 1 59 5 9 Tryz.underlying59 Tryz.underlying5 Tryz.underlying9
    rw [show [x].length = 1 from rfl] at hcv
    have hD3 := hd2.below hb3 hd2.lt
    have hP3 := HP2.out.trans (Played.refl w2.heap.size g w2 |>.below hb3) HP2.out.size
    have HD3 := hid hD3
    have HP3 := hid hP3
    clear hd2 hD3 hP3 hb3 hc3
    go_wp2
    go_ret
    exact ⟨⟨[x], rfl, by simp⟩, ⟨k2, HD3.out⟩, HP3.out⟩
  · have h0b : ((s.size : Int) == 0) = false := by simpa using h0
    have hc2 : CellsAt w2 w.heap.size s.data.toList := fun j u hj => by
      have hj' : j < s.data.size := by
        have := (List.getElem?_eq_some_iff.1 hj).1
        simpa using this
      rw [Lib.cell_of_heap HROW2.out, bytesRow_at s G j hj']
      rw [List.getElem?_eq_getElem (by simpa using hj')] at hj
      simp at hj
      subst hj
      rfl
    have hbs : (bytesRow s G).size = G := by
      unfold bytesRow
      rw [Array.size_append, Array.size_map, Array.size_replicate]
      have : s.data.size = s.size := rfl
      omega
    have hfz : ∀ j, j < G → w2.frozen? ⟨w.heap.size, j, none⟩ = false := fun j hj => by
      simp [World.frozen?, HROW2.out, hbs]
      omega
    have hsm : ∀ j, j < G → (w2.cell? ⟨w.heap.size, j, none⟩).isSome = true := fun j hj => by
      rw [Lib.cell_of_heap HROW2.out, Array.getElem?_eq_getElem (by rw [hbs]; exact hj)]
      rfl
    have HSM := hid hsm
    clear hsm hbs
    have hsl : s.data.toList.length = s.size := (Lib.size_eq s).symm
    obtain ⟨l, hl⟩ : ∃ l, s.data.toList = l := ⟨_, rfl⟩
    rw [hl] at hc2 hsl
    have cN := next_any g c k2 A L (s.size : Int) (by omega) w2 hd2
    have HC2 := hid hc2
    have HFZ := hid hfz
    have HSL := hid hsl
    have CN := hid cN
    clear hc2 hfz hsl hl cN hd2 HROW2
    go_wp2_with fail
    refine CN.out.mono ?_
    rintro e w3 ⟨⟨r, rfl, hr⟩, ⟨k3, hd3⟩, hR3⟩
    obtain ⟨hr0, hr1⟩ := hr (by omega)
    obtain ⟨i, rfl⟩ : ∃ i : Nat, r = (i : Int) := ⟨r.toNat, by omega⟩
    have hilt : i < s.size := by omega
    have hP3 := HP2.out.rolled hR3
    have hblk3 := hR3.block w.heap.size (by omega)
    have cN := next_any g c k3 A L 3 (by omega) w3 hd3
    have HP3 := hid hP3
    have HB3 := hid hblk3
    have CN3 := hid cN
    clear hr hd3 hR3 hP3 hblk3 cN CN HP2
    go_wp2_with fail
    refine CN3.out.mono ?_
    rintro e w4 ⟨⟨r, rfl, hr⟩, ⟨k4, hd4⟩, hR4⟩
    obtain ⟨hr0', hr1'⟩ := hr (by omega)
    have hP4 := HP3.out.rolled hR4
    have hblk4 := (hR4.block w.heap.size (by omega)).trans HB3.out
    have hc4 := HC2.out.kept hblk4
    have hfz4 : ∀ j, j < G → w4.frozen? ⟨w.heap.size, j, none⟩ = false := fun j hj => (World.frozen?_of_block (w := w2) hblk4).trans (HFZ.out j hj)
    have hsm4 : ∀ j, j < G → (w4.cell? ⟨w.heap.size, j, none⟩).isSome = true := fun j hj => by rw [World.cell?_of_block (w := w2) hblk4]; exact HSM.out j hj
    have HSM4 := hid hsm4
    clear hsm4 HSM
    have hli : i < l.length := by rw [HSL.out]; exact hilt
    have HP4 := hid hP4
    have HC4 := hid hc4
    have HFZ4 := hid hfz4
    have HD4 := hid hd4
    clear hr hd4 hR4 hP4 hblk4 hc4 hfz4 CN3 HP3 HB3 HC2 HFZ
    rcases (show r = 0 ∨ r = 1 ∨ r = 2 by omega) with rfl | rfl | rfl
    · have hcell := HC4.out i _ (List.getElem?_eq_getElem hli)
      have hfi := HFZ4.out i (by omega)
      have hiz : (i : Int) < (s.size : Int) := by omega
      obtain ⟨w5, hw5⟩ : ∃ w5, w4.setCell ⟨w.heap.size, i, none⟩ (.int .u8 (x.toNat : Int)) = w5 := ⟨_, rfl⟩
      have hc5 : CellsAt w5 w.heap.size (l.set i x) := by rw [← hw5]; exact HC4.out.set i x hli
      have hcv := hc5.conv (P := Tryz.prog) G 59 5 9 Tryz.underlying59 Tryz.underlying5 Tryz.underlying9
      rw [List.length_set, HSL.out] at hcv
      have hb5 : Below w.heap.size w4 w5 := by rw [← hw5]; exact (Below.refl w.heap.size w4).setCell (p := ⟨w.heap.size, i, none⟩) (Nat.le_refl _) _
      have hD5 := HD4.out.below hb5 hgl
      have hP5 := HP4.out.below hb5
      have HD5 := hid hD5
      have HP5 := hid hP5
      clear hD5 hP5 hb5 hc5 HD4 HP4 HC4 HFZ4
      go_wp2
      go_ret
      exact ⟨⟨l.set i x, rfl, by rw [List.length_set, HSL.out]; omega⟩, ⟨k4, HD5.out⟩, HP5.out⟩
    · have e1 : IntKind.i64.wrap ((i : Int) + 1) = (i : Int) + 1 := IntWalk.i64_in _ (by omega)
      have hiz : (i : Int) ≤ (s.size : Int) := by omega
      have hiG : (i : Int) ≤ (G : Int) := by omega
      have hi1 : (i : Int) + 1 ≤ (s.size : Int) := by omega
      have h01 : (0 : Int) ≤ (i : Int) + 1 := by omega
      have htn : ((i : Int) + 1).toNat = i + 1 := by omega
      by_cases hG1 : G = i + 1
      · have hii : (i : Int) ≤ (i : Int) + 1 := by omega
        have hii' : i ≤ i + 1 := by omega
        clear hiG
        subst hG1
        go_upto_region 11 with fail
        go_still_tail 7, (by kernel_rfl)
        change wpList _ _ _ _ _ w4.drew
        generalize hw5 : w4.drew = w5
        have hc5 : CellsAt w5 w.heap.size l := by rw [← hw5]; exact HC4.out
        have hfz5 : ∀ j, j < i + 1 → w5.frozen? ⟨w.heap.size, j, none⟩ = false := by rw [← hw5]; exact HFZ4.out
        have hD5 : DiceAt w5 g A L c k4 := by rw [← hw5]; exact HD4.out.drawn 1
        have hP5 : Played w.heap.size g w w5 := by rw [← hw5]; exact ⟨HP4.out.os, HP4.out.tape, HP4.out.output, HP4.out.size, HP4.out.block⟩
        obtain ⟨i5, hi5, hz5, hsi5, hby5⟩ := info_parts infoByte
        have hdl : (l.drop (i + 1)).length = s.size - (i + 1) := by rw [List.length_drop, HSL.out]
        have htl : (l.take i).length = i := by rw [List.length_take]; omega
        have HC5 := hid hc5
        have HF5 := hid hfz5
        have HD5 := hid hD5
        have HP5 := hid hP5
        have HDL := hid hdl
        have HTL := hid htl
        clear hc5 hfz5 hD5 hP5 hdl htl hw5 HD4 HP4 HC4 HFZ4
        have hc6 : CellsAt w5 w.heap.size (l.take i) := fun j u hj => by
          rw [List.getElem?_take] at hj
          split at hj
          · exact HC5.out j u hj
          · simp at hj
        have hcv := hc6.conv (P := Tryz.prog) (i + 1) 59 5 9 Tryz.underlying59 Tryz.underlying5 Tryz.underlying9
        rw [HTL.out] at hcv
        have HCV := hid hcv
        clear hc6 hcv
        refine wpList_append_arg _ rfl _ _ 59 rfl 5 i5 (.int .u8 0) 1 1 Tryz.underlying59 hi5 hz5 hsi5 hby5 rfl (by decide) w.heap.size 0 i (i + 1) (byteCells (l.take i)) rfl (by rw [byteCells_len, HTL.out, Nat.mul_one]) (HC5.out.take i) ⟨w.heap.size, 0, none⟩ 0 0 [] rfl rfl (fun j u hj => by simp at hj) (fun u hu => by simp at hu) (fun _ j hj => by simp at hj) (by unfold maxLen; omega) (by omega) (fun _ => ?_) (fun hgr => absurd hgr (by omega))
        rw [show w5.setCells w.heap.size (0 + i * 1) [] = w5 from rfl, Nat.add_zero]
        have hcv := HCV.out
        go_wp2
        go_ret
        exact ⟨⟨l.take i, rfl, by rw [HTL.out]; omega⟩, ⟨k4, HD5.out⟩, HP5.out⟩
      · go_upto_region 11 with fail
        go_still_tail 7, (by kernel_rfl)
        change wpList _ _ _ _ _ w4.drew
        generalize hw5 : w4.drew = w5
        have hc5 : CellsAt w5 w.heap.size l := by rw [← hw5]; exact HC4.out
        have hfz5 : ∀ j, j < G → w5.frozen? ⟨w.heap.size, j, none⟩ = false := by rw [← hw5]; exact HFZ4.out
        have hD5 : DiceAt w5 g A L c k4 := by rw [← hw5]; exact HD4.out.drawn 1
        have hP5 : Played w.heap.size g w w5 := by rw [← hw5]; exact ⟨HP4.out.os, HP4.out.tape, HP4.out.output, HP4.out.size, HP4.out.block⟩
        obtain ⟨i5, hi5, hz5, hsi5, hby5⟩ := info_parts infoByte
        have hdl : (l.drop (i + 1)).length = s.size - (i + 1) := by rw [List.length_drop, HSL.out]
        have htl : (l.take i).length = i := by rw [List.length_take]; omega
        have HC5 := hid hc5
        have HF5 := hid hfz5
        have HD5 := hid hD5
        have HP5 := hid hP5
        have HDL := hid hdl
        have HTL := hid htl
        clear hc5 hfz5 hD5 hP5 hdl htl hw5 HD4 HP4 HC4 HFZ4
        have HSP : Hid (i + (s.size - (i + 1)) ≤ G → ∀ j, j < (byteCells (l.drop (i + 1))).length → (w5.cell? ⟨w.heap.size, 0 + i * 1 + j, none⟩).isSome = true ∧ w5.frozen? ⟨w.heap.size, 0 + i * 1 + j, none⟩ = false) := hid fun _ j hj => by
          rw [byteCells_len, HDL.out] at hj
          exact ⟨by rw [HC5.out (0 + i * 1 + j) _ (List.getElem?_eq_getElem (by rw [HSL.out]; omega))]; rfl, HF5.out _ (by omega)⟩
        have HM1 : Hid (i + (s.size - (i + 1)) ≤ maxLen) := by unfold maxLen; exact hid (by omega)
        have HM2 : Hid ((i + (s.size - (i + 1))) * 1 ≤ 140737488355328) := hid (by omega)
        have HM3 : Hid (¬ G < i + (s.size - (i + 1))) := hid (by omega)
        refine wpList_append_arg _ rfl _ _ 59 rfl 5 i5 (.int .u8 0) 1 1 Tryz.underlying59 hi5 hz5 hsi5 hby5 rfl (by decide) w.heap.size 0 i G (byteCells (l.take i)) rfl (by rw [byteCells_len, HTL.out, Nat.mul_one]) (HC5.out.take i) ⟨w.heap.size, i + 1, none⟩ (s.size - (i + 1)) _ (byteCells (l.drop (i + 1))) rfl (by rw [byteCells_len, HDL.out, Nat.mul_one]) (HC5.out.drop (i + 1)) (byteCells_one _) HSP.out HM1.out HM2.out (fun _ => ?_) (fun hgr => absurd hgr HM3.out)
        · have hb6 := below_setCells (Nat.le_refl w.heap.size) (byteCells (l.drop (i + 1))) (0 + i * 1) w5
          have hcv := (HC5.out.shut i hli).conv (P := Tryz.prog) G 59 5 9 Tryz.underlying59 Tryz.underlying5 Tryz.underlying9
          rw [List.length_append, HTL.out, HDL.out] at hcv
          generalize w5.setCells w.heap.size (0 + i * 1) (byteCells (l.drop (i + 1))) = w6 at hb6 hcv ⊢
          have HD6 := hid (HD5.out.below hb6 hgl)
          have HP6 := hid (HP5.out.below hb6)
          clear hb6
          go_wp2
          go_ret
          exact ⟨⟨l.take i ++ l.drop (i + 1), rfl, by rw [List.length_append, HTL.out, HDL.out]; omega⟩, ⟨k4, HD6.out⟩, HP6.out⟩
    · have hiz : (i : Int) ≤ (s.size : Int) := by omega
      have hiG : (i : Int) ≤ (G : Int) := by omega
      have hiGn : i < G := by omega
      have h0z : (0 : Int) ≤ (i : Int) := by omega
      obtain ⟨i5, hi5, hz5, hsi5, hby5⟩ := info_parts infoByte
      have HL1 : Hid ((byteCells (l.drop i)).length = s.size - i) := hid (by rw [byteCells_len, List.length_drop, HSL.out])
      have HL2 : Hid ((byteCells (l.take i)).length = i) := hid (by rw [byteCells_len, List.length_take]; omega)
      have HM1 : Hid (1 + (s.size - i) ≤ maxLen) := by unfold maxLen; exact hid (by omega)
      have HM2 : Hid ((1 + (s.size - i)) * 1 ≤ 140737488355328) := hid (by omega)
      have HM3 : Hid (1 < 1 + (s.size - i)) := hid (by omega)
      have hz4' : w.heap.size < w4.heap.size := World.block_lt_of_cell? w4 _ (HC4.out i _ (List.getElem?_eq_getElem hli))
      have hz4 : w.heap.size ≤ w4.heap.size := Nat.le_of_lt hz4'
      by_cases hroom : s.size + 1 ≤ G
      · go_upto_region 7 with fail
        go_region_law (first
          | (refine step_append_room ?_ (.tmp 32) (.tmp 38) 59 ?_ 5 i5 1 Tryz.underlying59 hi5 hsi5 w.heap.size 0 i G ?_ ⟨g7, 0, none⟩ (1 + (s.size - i)) cap7 (byteCells (x :: l.drop i)) ?_ ?_ ?_ ?_ ?_ ?_ ?_
             · rfl
             · rfl
             · simp [Act.eval]
             · simp [Act.eval]
             · rw [byteCells_len, List.length_cons, List.length_drop, HSL.out]; omega
             · exact fun j u hj => World.ownsRow.cells HOWN.out (g := g7) rfl j u hj
             · exact byteCells_one _
             · omega
             · intro j hj
               rw [byteCells_len, List.length_cons, List.length_drop, HSL.out] at hj
               exact ⟨by rw [World.cell?_of_block (w := w4) HBLK.out]; exact HSM4.out _ (by omega), (World.frozen?_of_block (w := w4) HBLK.out).trans (HFZ4.out _ (by omega))⟩)
          |
          (refine step_append_grows ?_ (.tmp 34) (.tmp 37) 59 ?_ 5 i5 (.int .u8 0) 1 1 Tryz.underlying59 hi5 hz5 hsi5 hby5 ?_ ?_ (some ⟨w4.heap.size, 0, none⟩) 1 1 [.int .u8 (x.toNat : Int)] ?_ ?_ ?_ ?_ ⟨w.heap.size, i, none⟩ (s.size - i) (G - i) (byteCells (l.drop i)) ?_ ?_ ?_ ?_ HM3.out HM1.out HM2.out ?_
           · rfl
           · rfl
           · rfl
           · decide
           · simp [Act.eval]
           · intro h; cases h
           · rfl
           · rintro b ⟨rfl⟩ j u hj
             match j, hj with
             | 0, hj => simp at hj; subst hj; rw [Addr.add_lit]; exact (show (w4.alloc (.cells #[.int .u8 (x.toNat : Int)] 5)).cell? ⟨w4.heap.size, 0, none⟩ = _ from by rw [Lib.cell_of_heap (heap_alloc_new _ _)]; rfl)
             | j + 1, hj => simp at hj
           · simp [Act.eval]
             intro h
             omega
           · rw [HL1.out, Nat.mul_one]
           · intro j u hj
             have h8 := HC4.out.drop i j u hj
             rw [Addr.add_lit] at h8 ⊢
             exact (World.cell?_of_block (w := w4) (by exact Below.heap_alloc w4 _ w.heap.size hz4')).trans h8
           · exact byteCells_one _
           intro v' w7 hown hgrow
           obtain ⟨g7, cap7, rfl⟩ : ∃ g7 cap7, v' = .slice (some ⟨g7, 0, none⟩) (1 + (s.size - i)) cap7 := by
             rw [Nat.add_comm] at hown ⊢
             exact ownsRow_succ hown
           have HB47 := hid ((((Below.refl w.heap.size w4).alloc hz4 (.cells #[.int .u8 (x.toNat : Int)] 5)).drew).grown hgrow (by show w.heap.size ≤ (w4.alloc _).heap.size; simp; omega) (fun k e => by cases e))
           have HBLK := hid ((hgrow.block w.heap.size (by show w.heap.size < (w4.alloc _).heap.size; simp; omega) (by simp)).trans (by exact Below.heap_alloc w4 _ w.heap.size hz4'))
           have HOWN := hid hown
           clear hown hgrow))
        have hput := (HC4.out.kept HBLK.out).put i x (by omega) (fun q hq => by rw [World.cell?_of_block (w := w4) HBLK.out]; exact HSM4.out _ (by have := HSL.out; omega))
        have hcv := hput.conv (P := Tryz.prog) G 59 5 9 Tryz.underlying59 Tryz.underlying5 Tryz.underlying9
        have hlen : (l.take i ++ x :: l.drop i).length = i + (1 + (s.size - i)) := by
          rw [List.length_append, List.length_take, List.length_cons, List.length_drop, HSL.out]
          omega
        rw [hlen] at hcv
        have hb8 := below_setCells (Nat.le_refl w.heap.size) (byteCells (x :: l.drop i)) (0 + i * 1) w7
        have HLEN := hid hlen
        rw [show 0 + i * 1 = i by omega] at hb8 hcv
        clear hput hlen
        go_wp2_with fail
        generalize w7.setCells w.heap.size i (byteCells (x :: l.drop i)) = w8 at hb8 hcv ⊢
        have HD8 := hid (HD4.out.below (HB47.out.trans hb8) hgl)
        have HP8 := hid (HP4.out.below (HB47.out.trans hb8))
        clear hb8 HD4 HP4
        go_wp2
        go_ret
        exact ⟨⟨l.take i ++ x :: l.drop i, rfl, by rw [HLEN.out]; omega⟩, ⟨k4, HD8.out⟩, HP8.out⟩
      · have HM4 : Hid (G < i + (1 + (s.size - i))) := hid (by omega)
        have HM5 : Hid (i + (1 + (s.size - i)) ≤ maxLen) := by unfold maxLen; exact hid (by omega)
        have HM6 : Hid ((i + (1 + (s.size - i))) * 1 ≤ 140737488355328) := hid (by omega)
        go_upto_region 7 with fail
        go_region_law (first
          | (refine step_append_grows ?_ (.tmp 32) (.tmp 38) 59 ?_ 5 i5 (.int .u8 0) 1 1 Tryz.underlying59 hi5 hz5 hsi5 hby5 ?_ ?_ (some ⟨w.heap.size, 0, none⟩) i G (byteCells (l.take i)) ?_ ?_ ?_ ?_ ⟨g7, 0, none⟩ (1 + (s.size - i)) cap7 (byteCells (x :: l.drop i)) ?_ ?_ ?_ ?_ HM4.out HM5.out HM6.out ?_
             · rfl
             · rfl
             · rfl
             · decide
             · simp [Act.eval]
             · intro h; cases h
             · rw [HL2.out, Nat.mul_one]
             · rintro b ⟨rfl⟩ j u hj
               have h8 := HC4.out.take i j u hj
               rw [Addr.add_lit]
               exact (World.cell?_of_block (w := w4) HBLK.out).trans h8
             · simp [Act.eval]
             · rw [byteCells_len, List.length_cons, List.length_drop, HSL.out]; omega
             · exact fun j u hj => World.ownsRow.cells HOWN.out (g := g7) rfl j u hj
             · exact byteCells_one _
             intro v' w8 hown8 hgrow8
             have HOWN8 := hid hown8
             have HB78 := hid ((Below.refl w.heap.size w7).grown hgrow8 HB47'.out (fun k e => by cases e))
             clear hown8 hgrow8)
          |
          (refine step_append_grows ?_ (.tmp 34) (.tmp 37) 59 ?_ 5 i5 (.int .u8 0) 1 1 Tryz.underlying59 hi5 hz5 hsi5 hby5 ?_ ?_ (some ⟨w4.heap.size, 0, none⟩) 1 1 [.int .u8 (x.toNat : Int)] ?_ ?_ ?_ ?_ ⟨w.heap.size, i, none⟩ (s.size - i) (G - i) (byteCells (l.drop i)) ?_ ?_ ?_ ?_ HM3.out HM1.out HM2.out ?_
           · rfl
           · rfl
           · rfl
           · decide
           · simp [Act.eval]
           · intro h; cases h
           · rfl
           · rintro b ⟨rfl⟩ j u hj
             match j, hj with
             | 0, hj => simp at hj; subst hj; rw [Addr.add_lit]; exact (show (w4.alloc (.cells #[.int .u8 (x.toNat : Int)] 5)).cell? ⟨w4.heap.size, 0, none⟩ = _ from by rw [Lib.cell_of_heap (heap_alloc_new _ _)]; rfl)
             | j + 1, hj => simp at hj
           · simp [Act.eval]
             intro h
             omega
           · rw [HL1.out, Nat.mul_one]
           · intro j u hj
             have h8 := HC4.out.drop i j u hj
             rw [Addr.add_lit] at h8 ⊢
             exact (World.cell?_of_block (w := w4) (by exact Below.heap_alloc w4 _ w.heap.size hz4')).trans h8
           · exact byteCells_one _
           intro v' w7 hown hgrow
           obtain ⟨g7, cap7, rfl⟩ : ∃ g7 cap7, v' = .slice (some ⟨g7, 0, none⟩) (1 + (s.size - i)) cap7 := by
             rw [Nat.add_comm] at hown ⊢
             exact ownsRow_succ hown
           have HB47 := hid ((((Below.refl w.heap.size w4).alloc hz4 (.cells #[.int .u8 (x.toNat : Int)] 5)).drew).grown hgrow (by show w.heap.size ≤ (w4.alloc _).heap.size; simp; omega) (fun k e => by cases e))
           have HBLK := hid ((hgrow.block w.heap.size (by show w.heap.size < (w4.alloc _).heap.size; simp; omega) (by simp)).trans (by exact Below.heap_alloc w4 _ w.heap.size hz4'))
           have HB47' := hid (Nat.le_trans hz4 HB47.out.size)
           have HOWN := hid hown
           clear hown hgrow))
        have hlen : (l.take i ++ x :: l.drop i).length = i + (1 + (s.size - i)) := by
          rw [List.length_append, List.length_take, List.length_cons, List.length_drop, HSL.out]
          omega
        have hrow : w8.ownsRow w7.heap.size 5 1 v' (l.take i ++ x :: l.drop i).length (byteCells (l.take i ++ x :: l.drop i)) := by
          rw [byteCells_app, hlen]
          exact HOWN8.out
        have hcv := row_string (P := Tryz.prog) hrow 59 5 9 Tryz.underlying59 Tryz.underlying5 Tryz.underlying9
        rw [hlen] at hrow
        obtain ⟨A8, c8, rfl⟩ := row_slice hrow
        have HLEN := hid hlen
        have HD8 := hid (HD4.out.below (HB47.out.trans HB78.out) hgl)
        have HP8 := hid (HP4.out.below (HB47.out.trans HB78.out))
        clear hrow hlen HD4 HP4 HOWN8 HOWN
        go_wp2
        go_ret
        exact ⟨⟨l.take i ++ x :: l.drop i, rfl, by rw [HLEN.out]; omega⟩, ⟨k4, HD8.out⟩, HP8.out⟩
end Go.Proofs.YtlgmanbilaminaaGreatDoor
