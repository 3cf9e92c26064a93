/-
  What the reference's Decode returns for bytes as UTF-8. Condition: the slice's length is within its capacity.
-/
import Derived.Test.YtcjomjhaimlbmaaDoorRef
set_option linter.unusedVariables false
namespace Go.Proofs.YtcjomjhaimlbmaaDoor
open Go Go.Proofs Go.RowKit Go.Lib

theorem stepN_bad (l : List UInt8) (h : badAt l = true) : stepN l = 0 := if_pos (.inr h)
theorem stepN_good (l : List UInt8) (hne : l ≠ []) (h : badAt l = false) : stepN l = (decodeL l).2 := if_neg (by rintro (h' | h'); exact hne h'; rw [h] at h'; cases h')
theorem restU_three (l : List UInt8) (h : markB l = true) : restU l 3 = tokens 3 l ∧ 3 ≤ l.length := by
  have h3 : l.take 3 = mark3 := of_decide_eq_true h
  refine ⟨by simp [restU, tokens, h3], ?_⟩
  have := congrArg List.length h3
  simp [mark3] at this
  omega
theorem no_mark (l : List UInt8) (h : markB l = false) : ¬ (decodeL l).1 = 65279 := by
  intro e
  have := (mark_iff l).1 e
  unfold markB at h
  rw [decide_eq_true this] at h
  cases h

/-- Where the reference begins. -/
def startU (l : List UInt8) : Nat := if markB l then 3 else 0

set_option maxHeartbeats 4000000 in
set_option maxRecDepth 100000 in
theorem refDecode_3 (A : Option Addr) (l : List UInt8) (c : Nat) (hl : l.length ≤ 65536) (hlc : l.length ≤ c) (w : World) (hb : BIn w w.heap.size A l) :
    Calls Tryd.prog 9 #[.slice A l.length c, .int .i64 3] w (Dec3 w (textT (tokens 3 l)) (dmgT (tokens 3 l)) 0) := by
  obtain ⟨T, hT⟩ : ∃ T, textT (tokens 3 l) = T := ⟨_, rfl⟩
  obtain ⟨D, hD⟩ : ∃ D, dmgT (tokens 3 l) = D := ⟨_, rfl⟩
  rw [hT, hD]
  have HT := hid hT
  have HD := hid hD
  have hn : ¬ (65536 : Int) < (l.length : Int) := by omega
  have cM := marked_any A l c w w.heap.size hb
  clear hT hD
  obtain ⟨i37, hi, hz, hsi, hby⟩ := info_parts info37
  obtain ⟨i5, hi5, hz5, hsi5, hby5⟩ := info_parts info5
  obtain ⟨M, hM0⟩ : ∃ M, markB l = M := ⟨_, rfl⟩
  rw [hM0] at cM
  have HM0 := hid hM0
  have CM := hid cM
  clear hM0 cM
  cases M
  all_goals
    go_enter Tryd.func9, Tryd.ntmps9
    go_wp2_with (go_at_call 22; refine CM.out.mono ?_; rintro e w' ⟨rfl, rfl⟩)
    go_loopw [7, 8, 9] (fun ov dv i wr => ∃ (k : Nat) (acc : List UInt8) (ds : List (Nat × UInt8)), k ≤ l.length ∧ i = .int .i64 (k : Int) ∧ MidR w acc ov dv ds wr ∧ Hid (k = 0 → markB l = false) ∧ Hid (acc ++ textT (restU l k) = T) ∧ Hid (ds ++ dmgT (restU l k) = D) ∧ acc.length ≤ 4 * k ∧ ds.length ≤ k) (fun _ _ i _ => l.length - (RowKit.intOf i).toNat)
    case atStart =>
      first
      | exact ⟨0, [], [], Nat.zero_le _, rfl, MidR.start w, hid (fun _ => HM0.out), hid (by rw [restU_zero]; exact HT.out), hid (by rw [restU_zero]; exact HD.out), by simp, by simp⟩
      | exact ⟨3, [], [], (restU_three l HM0.out).2, rfl, MidR.start w, hid (fun h => by cases h), hid (by rw [(restU_three l HM0.out).1]; exact HT.out), hid (by rw [(restU_three l HM0.out).1]; exact HD.out), by simp, by simp⟩
    case round =>
      obtain ⟨k, acc, ds, hk, rfl, hM, h0, hacc, hds, hal, hdl⟩ := hrel
      have hbw := hM.2.2
      have hov := hM.1
      have hdm := hM.2.1
      have hsz : w.heap.size ≤ wr.heap.size := hbw.size
      by_cases hlt : k < l.length
      · obtain ⟨b, off, rfl, hbB, hcell0⟩ := hb.at_ hlt
        have hcell : wr.cell? ⟨b, off + k, none⟩ = some (.int .u8 (l[k].toNat : Int)) := (hbw.cell (p := ⟨b, off + k, none⟩) hbB).trans hcell0
        have hu8 := l[k].toNat_lt
        obtain ⟨x, hx⟩ : ∃ x, l[k].toNat = x := ⟨_, rfl⟩
        rw [hx] at hcell hu8
        have hx256 : x < 256 := hu8
        have HX := hid hx
        have hbd := ((hb.below hbw).mono hsz).drop k
        have hne : l.drop k ≠ [] := by
          intro e
          have := congrArg List.length e
          simp at this
          omega
        have cS := step_any (some ⟨b, off + k, none⟩) (l.drop k) (c - k) (by rw [List.length_drop]; omega) wr hbd
        rw [List.length_drop] at cS
        have hck : ¬ (c = k) := by omega
        have hrest := restU_step l k hlt (by
          rintro ⟨e, h⟩
          subst e
          exact no_mark l (h0.out rfl) h)
        have hw1 := decodeL_width (l.drop k)
        have hw2 := decodeL_le (l.drop k) hne
        have hw4 := decodeL_le4 (l.drop k)
        rw [List.length_drop] at hw2
        obtain ⟨K, hK⟩ : ∃ K, (decodeL (l.drop k)).2 = K := ⟨_, rfl⟩
        rw [hK] at hrest hw1 hw2 hw4
        have HK := hid hK
        have HREST := hid hrest
        have HNE := hid hne
        clear hx hcell0 hb hu8 hrest hK hne h0
        by_cases hbad : badAt (l.drop k) = true
        · rw [stepN_bad _ hbad] at cS
          have hK1 : K = 1 := by rw [← HK.out]; exact (of_decide_eq_true hbad : (decodeL (l.drop k)).1 = 65533 ∧ (decodeL (l.drop k)).2 = 1).2
          have hR : (decodeL (l.drop k)).1 = 65533 := (of_decide_eq_true hbad : (decodeL (l.drop k)).1 = 65533 ∧ (decodeL (l.drop k)).2 = 1).1
          have CS := hid cS
          have HB := hid hbad
          have HK1 := hid hK1
          have HR := hid hR
          clear cS hbad hbd hK1 hR
          go_wp2_with fail
          refine CS.out.mono ?_
          rintro e w2 ⟨rfl, hb2⟩
          have hM2 := hM.below hb2
          have hsz2 : w.heap.size ≤ w2.heap.size := hM2.2.2.size
          have hdm2 := hM2.2.1
          have hcell2 : w2.cell? ⟨b, off + k, none⟩ = some (.int .u8 (x : Int)) := (hb2.cell (p := ⟨b, off + k, none⟩) (by dsimp only; omega)).trans hcell
          clear hb2
          have HC3 : Hid (ds.length + 1 ≤ maxLen) := by unfold maxLen; exact hid (by omega)
          have HC4 : Hid ((ds.length + 1) * 16 ≤ 140737488355328) := hid (by omega)
          have HC5 : Hid (∀ o : Obj, w.heap.size ≤ (w2.alloc o).heap.size) := hid (fun o => by have := hsz2; simp; omega)
          go_wp2_with (at_builtin; refine wpList_append_own _ rfl _ _ 23 rfl w.heap.size 37 i37 (.agg #[.int .i64 0, .int .i64 0]) 2 16 Tryd.underlying23 hi hz hsi hby rfl (by decide) _ ds.length (dmgCells ds) rfl (World.ownsRow.alloc hdm2 _) ⟨w2.heap.size, 0, none⟩ 1 1 [.int .i64 (k : Int), .int .i64 (x : Int)] rfl rfl (cell_two_new _ _ _ _) (two_one _ _ _ _) HC3.out HC4.out (HC5.out _) ?_)
          intro v' w3 hown' hgrow _
          have hM3 := hM2.damage k x l[k] HX.out hown' hgrow
          have hov3 := hM3.1
          have hsz3 : w.heap.size ≤ w3.heap.size := hM3.2.2.size
          have HS3 : Hid (acc.length + 3 ≤ maxLen) := by unfold maxLen; exact hid (by omega)
          have HS4 : Hid (acc.length + 3 ≤ 140737488355328) := hid (by omega)
          have HS5 : Hid (w.heap.size ≤ w3.heap.size) := hid hsz3
          go_wp2_with (at_builtin; refine Lib.wpList_append_own_string _ rfl _ _ 22 9 rfl w.heap.size 5 i5 Tryd.underlying22 Tryd.underlying9 hi5 hz5 hsi5 hby5 _ acc.length (byteCells acc) rfl hov3 ⟨#[239, 191, 189]⟩ rfl HS3.out HS4.out HS5.out ?_)
          intro v2 w4 hown2 hgrow2 _
          have hM4 := hM3.bytes (new := encN 65533) (by decide) hown2 hgrow2
          have he4 := (encN_len 65533).2
          go_wp2
          go_roundw
          case rel =>
            have e1 := HREST.out
            rw [HB.out, HR.out, HK1.out] at e1
            refine ⟨k + 1, _, _, by omega, by go_num, hM4, hid (fun h => by omega), ?_, ?_, ?_, ?_⟩
            · have := hacc.out
              rw [e1, textT_cons] at this
              exact hid (by rw [List.append_assoc]; exact this)
            · have := hds.out
              rw [e1, dmgT_bad] at this
              exact hid (by rw [List.append_assoc]; exact this)
            · simp; omega
            · simp; omega
          case measure => simp [RowKit.intOf]; omega
        · have hgood : badAt (l.drop k) = false := by
            cases h : badAt (l.drop k) with
            | false => rfl
            | true => exact absurd h hbad
          rw [stepN_good _ HNE.out hgood, HK.out] at cS
          have henc : encN (decodeL (l.drop k)).1 = (l.drop k).take K := by
            rw [← HK.out]; exact encode_decode (l.drop k) HNE.out (by simpa [badAt] using hgood)
          have hKz : (0 : Int) < (K : Int) := by omega
          have CS := hid cS
          have HG := hid hgood
          have HE := hid henc
          have HBD := hid hbd
          clear cS hbad hgood henc hbd
          go_wp2_with fail
          refine CS.out.mono ?_
          rintro e w2 ⟨rfl, hb2⟩
          have hM2 := hM.below hb2
          have hsz2 : w.heap.size ≤ w2.heap.size := hM2.2.2.size
          have hov2 := hM2.1
          have hnews : ∀ j u, (byteCells ((l.drop k).take K))[j]? = some u → w2.cell? ((⟨b, off + k, none⟩ : Addr).add j) = some u := by
            intro j u hu
            have hbt := (HBD.out.below (Below.mono hb2 (Nat.le_refl _)))
            rw [Addr.add_lit]
            rcases hbt with h | ⟨b', off', hA, _, hc'⟩
            · rw [h] at hu; simp [byteCells] at hu
            · injection hA with hA
              injection hA with h1 h2 _
              subst h1 h2
              simp only [byteCells, List.getElem?_map, List.getElem?_take] at hu
              split at hu
              · obtain ⟨y, hy, rfl⟩ := Option.map_eq_some_iff.1 hu
                exact hc' j y hy
              · simp at hu
          have hlen : (byteCells ((l.drop k).take K)).length = (k + K - k) * 1 := by
            rw [byteCells_length, List.length_take, List.length_drop]; omega
          have HNW := hid hnews
          have HLEN := hid hlen
          have HC3 : Hid (acc.length + (k + K - k) ≤ maxLen) := by unfold maxLen; exact hid (by omega)
          have HC4 : Hid ((acc.length + (k + K - k)) * 1 ≤ 140737488355328) := hid (by omega)
          have HC5 : Hid (w.heap.size ≤ w2.heap.size) := hid hsz2
          clear hb2 hnews hlen
          go_wp2_with (at_builtin; refine wpList_append_own _ rfl _ _ 22 rfl w.heap.size 5 i5 (.int .u8 0) 1 1 Tryd.underlying22 hi5 hz5 hsi5 hby5 rfl (by decide) _ acc.length (byteCells acc) rfl hov2 ⟨b, off + k, none⟩ (k + K - k) (c - k) (byteCells ((l.drop k).take K)) rfl HLEN.out HNW.out (bytes_one _) HC3.out HC4.out HC5.out ?_)
          intro v' w3 hown' hgrow _
          have hM3 := hM2.bytes (new := (l.drop k).take K) (by have := HLEN.out; rw [byteCells_length] at this; omega) hown' hgrow
          go_wp2
          go_roundw
          case rel =>
            have e1 := HREST.out
            rw [HG.out] at e1
            refine ⟨k + K, _, _, by omega, by go_num, hM3, hid (fun h => by omega), ?_, ?_, ?_, by omega⟩
            · have := hacc.out
              rw [e1, textT_cons] at this
              dsimp only at this
              rw [HE.out] at this
              exact hid (by rw [List.append_assoc]; exact this)
            · have := hds.out
              rw [e1, dmgT_good] at this
              exact hid this
            · simp; omega
          case measure => simp [RowKit.intOf]; omega
      · have e0 := restU_end l k hlt
        have ea := hacc.out
        have ed := hds.out
        rw [e0] at ea ed
        simp only [textT, dmgT, List.flatMap_nil, List.filter_nil, List.map_nil, List.append_nil] at ea ed
        have EA := hid ea
        have ED := hid ed
        clear ea ed e0 hb
        obtain ⟨A2, c2, rfl, hb2⟩ := owned_string hov
        have hcv := hb2.convert (P := Tryd.prog) c2 22 5 9 Tryd.underlying22 Tryd.underlying5 Tryd.underlying9
        clear hb2 hov
        go_wp2
        go_ret3
        obtain rfl : acc = T := EA.out
        obtain rfl : ds = D := ED.out
        exact ⟨_, rfl, hdm, hbw⟩
end Go.Proofs.YtcjomjhaimlbmaaDoor
