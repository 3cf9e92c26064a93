/-
  What decodeSingle does: the text and the damage of bytes in an encoding with one byte for each character. Condition: at most 65536 bytes.
-/
import Derived.Test.YtcjomjhaimlbmaaDoorS1
import Derived.Test.YtcjomjhaimlbmaaDoorMem
import Derived.Test.YtcjomjhaimlbmaaDoorBuilder
import Derived.Lib.Hide
namespace Go.Proofs.YtcjomjhaimlbmaaDoor
open Go Go.Proofs Go.RowKit Go.Lib

set_option maxHeartbeats 1000000 in
set_option maxRecDepth 100000 in
theorem decodeSingle_any (A : Option Addr) (l : List UInt8) (c : Nat) (g a : Nat) (w : World) (hl : l.length ≤ 65536) (hb : BIn w w.heap.size A l) (ha : a < w.heap.size) (hg : w.cell? ⟨a, 0, none⟩ = some (.int .i32 (g : Int))) :
    Calls Tryd.prog 20 #[.slice A l.length c, .func (.func 33) #[] #[.pointer (some ⟨a, 0, none⟩)]] w (DecP w (textT (sings g 0 l)) (dmgT (sings g 0 l))) := by
  obtain ⟨T, hT⟩ : ∃ T, textT (sings g 0 l) = T := ⟨_, rfl⟩
  obtain ⟨D, hD⟩ : ∃ D, dmgT (sings g 0 l) = D := ⟨_, rfl⟩
  rw [hT, hD]
  have HT := hid hT
  have HD := hid hD
  clear hT hD
  go_enter Tryd.func20, Tryd.ntmps20
  go_wp2
  go_loopw [7, 13] (fun dv i wr => ∃ (k : Nat) (acc : List UInt8) (ds : List (Nat × UInt8)), k ≤ l.length ∧ i = .int .i64 (k : Int) ∧ MidP w w.heap.size acc dv ds wr ∧ Hid (acc ++ textT (sings g k (l.drop k)) = T) ∧ Hid (ds ++ dmgT (sings g k (l.drop k)) = D) ∧ acc.length ≤ 4 * k ∧ ds.length ≤ k) (fun _ i _ => l.length - (RowKit.intOf i).toNat)
  case atStart =>
    exact ⟨0, [], [], Nat.zero_le _, rfl, MidP.start w, hid HT.out, hid HD.out, by simp, by simp⟩
  case round =>
    obtain ⟨k, acc, ds, hk, rfl, hM, hacc, hds, hal, hdl⟩ := hrel
    have hbw := hM.2.2
    have hdm := hM.2.1
    by_cases hlt : k < l.length
    · obtain ⟨b, off, rfl, hbB, hcell0⟩ := hb.at_ hlt
      have hcell : wr.cell? ⟨b, off + k, none⟩ = some (.int .u8 (l[k].toNat : Int)) := (hbw.cell (p := ⟨b, off + k, none⟩) hbB).trans hcell0
      have hgc : wr.cell? ⟨a, 0, none⟩ = some (.int .i32 (g : Int)) := (hbw.cell (p := ⟨a, 0, none⟩) ha).trans hg
      have hu8 := l[k].toNat_lt
      obtain ⟨x, hx⟩ : ∃ x, l[k].toNat = x := ⟨_, rfl⟩
      rw [hx] at hcell hu8
      have HX := hid hx
      clear hx hcell0 hb hg
      have hsz := hbw.size
      by_cases hbad : g < x
      · have hd : decide ((g : Int) < (x : Int)) = true := by simpa using hbad
        obtain ⟨i37, hi, hz, hsi, hby⟩ := info_parts info37
        go_wp2_with (first | (go_at_call 33; refine (beyond_any _ _ _ _ hgc).mono ?_; rintro e w' ⟨rfl, rfl⟩) | (at_builtin; refine wpList_append_own _ rfl _ _ 23 rfl w.heap.size 37 i37 (.agg #[.int .i64 0, .int .i64 0]) 2 16 Tryd.underlying23 hi hz hsi hby rfl (by decide) _ ds.length (dmgCells ds) rfl (World.ownsRow.alloc hdm _) ⟨wr.heap.size, 0, none⟩ 1 1 [.int .i64 (k : Int), .int .i64 (x : Int)] rfl rfl ?c1 ?c2 ?c3 ?c4 ?c5 ?_))
        case c1 => exact cell_two_new _ _ _ _
        case c2 => intro u hu; simp at hu; rcases hu with rfl | rfl <;> rfl
        case c3 => unfold maxLen; omega
        case c4 => omega
        case c5 => simp; omega
        intro v' w2 hown' hgrow _
        have hM2 := hM.damage k x l[k] HX.out hown' hgrow
        have hsz2 : w.heap.size ≤ w2.heap.size := hM2.2.2.size
        go_wp2_with (go_at_call 31; refine (builder_WriteRune w.heap.size w.heap.size (byteCells acc) 65533 (by omega) (by omega) _ hM2.1 (by rw [byteCells_length]; omega) hsz2).mono ?_; rintro e w3 ⟨rfl, h3, b3, k3⟩)
        have hM3 := hM2.write 65533 h3 b3 k3
        go_roundw
        case rel =>
          have e1 := sings_at g k l hlt
          rw [if_pos (by rw [HX.out]; exact hbad), decide_eq_true (by rw [HX.out]; exact hbad)] at e1
          refine ⟨k + 1, _, _, by omega, by go_num, hM3, ?_, ?_, ?_, ?_⟩
          · have := hacc.out
            rw [e1, textT_cons] at this
            exact hid (by rw [List.append_assoc]; exact this)
          · have := hds.out
            rw [e1, dmgT_bad] at this
            exact hid (by rw [List.append_assoc]; exact this)
          · have := (encN_len 65533).2; simp; omega
          · simp; omega
        case measure => simp [RowKit.intOf]; omega
      · have hd : decide ((g : Int) < (x : Int)) = false := by simpa using hbad
        go_wp2_with (first | (go_at_call 33; refine (beyond_any _ _ _ _ hgc).mono ?_; rintro e w' ⟨rfl, rfl⟩) | (go_at_call 31; refine (builder_WriteRune w.heap.size w.heap.size (byteCells acc) (x : Int) (by omega) (by omega) _ hM.1 (by rw [byteCells_length]; omega) hsz).mono ?_; rintro e w3 ⟨rfl, h3, b3, k3⟩))
        have hM3 := hM.write x h3 b3 k3
        go_roundw
        case rel =>
          have e1 := sings_at g k l hlt
          rw [if_neg (by rw [HX.out]; exact hbad), decide_eq_false (by rw [HX.out]; exact hbad), HX.out] at e1
          refine ⟨k + 1, _, _, by omega, by go_num, hM3, ?_, ?_, ?_, ?_⟩
          · have := hacc.out
            rw [e1, textT_cons] at this
            exact hid (by rw [List.append_assoc]; exact this)
          · have := hds.out
            rw [e1, dmgT_good] at this
            exact hid this
          · have := (encN_len x).2; simp; omega
          · omega
        case measure => simp [RowKit.intOf]; omega
    · have hkl : k = l.length := by omega
      have e0 : sings g k (l.drop k) = [] := by rw [hkl, List.drop_length]; rfl
      have ea := hacc.out
      have ed := hds.out
      rw [e0] at ea ed
      simp only [textT, dmgT, List.flatMap_nil, List.filter_nil, List.map_nil, List.append_nil] at ea ed
      have EA := hid ea
      have ED := hid ed
      clear ea ed e0 hkl hb hg
      have hsz := hbw.size
      have hM1 := hM.1
      go_wp2_with (go_at_call 32; refine (builder_String w.heap.size w.heap.size acc _ hM1 hsz).mono ?_; rintro e w3 ⟨rfl, h3, b3, k3⟩)
      go_ret2
      obtain rfl : acc = T := EA.out
      obtain rfl : ds = D := ED.out
      exact ⟨_, rfl, hdm.others k3 (hdm.ne_builder hM1), hbw.trans b3⟩
end Go.Proofs.YtcjomjhaimlbmaaDoor
