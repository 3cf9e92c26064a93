/-
  What decodeUtf8 does: the text and the damage of a string of bytes as UTF-8. Conditions: at most 65536 bytes; the library's two tables hold what their initialisers lay.
-/
import Derived.Test.YtcjomjhaimlbmaaDoorS1
import Derived.Test.YtcjomjhaimlbmaaDoorMem
import Derived.Test.YtcjomjhaimlbmaaDoorBuilder
import Derived.Test.YtcjomjhaimlbmaaDoorShelf
import Derived.Lib.Hide
import Derived.Lib.RuneCountTail
namespace Go.Proofs.YtcjomjhaimlbmaaDoor
open Go Go.Proofs Go.RowKit Go.Lib

theorem decodeGo_at (s : ByteArray) (pos : Nat) (h : pos < s.size) : Lib.decodeGo (s.extract pos s.size) = Utf8.decode s pos := by
  unfold Lib.decodeGo
  rw [if_neg (by rw [Lib.tail_size]; omega), Lib.tail_decode, Nat.add_zero]

set_option maxHeartbeats 2000000 in
set_option maxRecDepth 100000 in
theorem decodeUtf8_any (s : ByteArray) (w : World) (hl : s.size ≤ 65536) (hT : Lib.Utf8Tabs 0 1 w) :
    Calls Tryd.prog 19 #[.string s] w (DecP w (textT (tokens 3 s.data.toList)) (dmgT (tokens 3 s.data.toList))) := by
  obtain ⟨T, hTT⟩ : ∃ T, textT (tokens 3 s.data.toList) = T := ⟨_, rfl⟩
  obtain ⟨D, hDD⟩ : ∃ D, dmgT (tokens 3 s.data.toList) = D := ⟨_, rfl⟩
  rw [hTT, hDD]
  have HT := hid hTT
  have HD := hid hDD
  have hsl : s.data.toList.length = s.size := (Lib.size_eq s).symm
  clear hTT hDD
  go_enter Tryd.func19, Tryd.ntmps19
  go_wp2
  go_loopw [5] (fun dv wr => ∃ (pos : Nat) (acc : List UInt8) (ds : List (Nat × UInt8)), wr.heap[w.heap.size + 1]? = some (.stringIter s pos) ∧ MidP w w.heap.size acc dv ds wr ∧ Hid (acc ++ textT (restU s.data.toList pos) = T) ∧ Hid (ds ++ dmgT (restU s.data.toList pos) = D) ∧ acc.length ≤ 4 * pos ∧ ds.length ≤ pos) (fun _ wr => s.size - wr.iterPos (w.heap.size + 1))
  case atStart =>
    refine ⟨0, [], [], ?_, ?_, hid HT.out, hid HD.out, by simp, by simp⟩
    · have := World.iter_heap (w.alloc (.cells #[.pointer none, .slice none 0 0] 54)) s 0
      simpa using this
    · exact (MidP.start w).alloc _
  case round =>
    obtain ⟨pos, acc, ds, hit, hM, hacc, hds, hal, hdl⟩ := hrel
    have hbw := hM.2.2
    have hsz : w.heap.size + 1 < wr.heap.size := (Array.getElem?_eq_some_iff.1 hit).1
    by_cases hp : pos < s.size
    · have hnx : ∀ ty, (Instr.next (.pointer (some ⟨w.heap.size + 1, 0, none⟩)) true ty).run Tryd.prog wr = _ := fun ty => Lib.run_next_any_at wr (w.heap.size + 1) s pos ty hit hp
      have hdec : decodeL (s.data.toList.drop pos) = Utf8.decode s pos := decodeL_drop s pos
      have hwd := Lib.width_pos s pos
      have hrl := Lib.rune_le s pos
      have hgo := decodeGo_at s pos hp
      obtain ⟨R, hR⟩ : ∃ R, (Utf8.decode s pos).1 = R := ⟨_, rfl⟩
      obtain ⟨K, hK⟩ : ∃ K, (Utf8.decode s pos).2 = K := ⟨_, rfl⟩
      have hRK : Utf8.decode s pos = (R, K) := by rw [← hR, ← hK]
      rw [hRK] at hdec hgo hnx
      rw [hK] at hwd
      rw [hR] at hrl
      dsimp only at hnx
      have hit2 := Lib.iterAt_heap wr (w.heap.size + 1) s pos (pos + K) hit
      have hM2 := hM.iterAt hit (by omega) (pos + K)
      obtain ⟨W, hWd⟩ : ∃ W, wr.iterAt (w.heap.size + 1) s (pos + K) = W := ⟨_, rfl⟩
      rw [hWd] at hnx hit2 hM2
      have hltW : w.heap.size + 1 < W.heap.size := (Array.getElem?_eq_some_iff.1 hit2).1
      have HD1 := hid hdec
      have HW := hid hWd
      have HSL := hid hsl
      have HIT := hid hit
      clear hR hK hRK hdec hWd hsl hM hit
      by_cases hmark : pos = 0 ∧ R = 65279
      · obtain ⟨h0, hr⟩ := hmark
        have hz : ((pos : Int) == 0) = true := by simp [h0]
        have hrb : ((R : Int) == 65279) = true := by simp [hr]
        have H0 := hid h0
        have HR := hid hr
        clear h0 hr hT hgo
        go_wp2
        go_roundw
        case rel =>
          have hp0 : pos = 0 := H0.out
          have hR0 : R = 65279 := HR.out
          have hd := HD1.out
          have hm1 : (decodeL s.data.toList).1 = 65279 := by rw [hp0] at hd; simp only [List.drop_zero] at hd; rw [hd]; exact hR0
          have hm2 := restU_mark _ hm1
          have hk : (decodeL s.data.toList).2 = K := by rw [hp0] at hd; simp only [List.drop_zero] at hd; rw [hd]
          rw [hk] at hm2
          refine ⟨pos + K, acc, ds, hit2, hM2, ?_, ?_, by omega, by omega⟩
          · have := hacc.out
            rw [hp0, ← hm2] at this
            exact hid (by rw [hp0, Nat.zero_add]; exact this)
          · have := hds.out
            rw [hp0, ← hm2] at this
            exact hid (by rw [hp0, Nat.zero_add]; exact this)
        case measure =>
          simp only [World.iterPos, hit2, HIT.out]
          omega
      · have hTW : Lib.Utf8Tabs 0 1 W := Utf8Tabs_below hT (by have := hM2.2.2; exact this.mono (Nat.le_refl _))
        have cD : ∀ W', W' = W → Calls Tryd.prog 30 #[.string (s.extract pos s.size)] W' _ := fun W' e => by subst e; exact Tryd.utf8_DecodeRuneInString (s.extract pos s.size) _ hTW
        rw [hgo] at cD
        have CD := hid (cD W rfl)
        have HM := hid hmark
        have hq : (((pos : Int) == 0) = false) ∨ (((pos : Int) == 0) = true ∧ ((R : Int) == 65279) = false) := by
          by_cases h0 : pos = 0
          · exact .inr ⟨by simp [h0], by simp; omega⟩
          · exact .inl (by simp; omega)
        clear hT hTW cD hgo hmark
        have hrest : Hid (restU s.data.toList pos = ⟨pos, R, decide (R = 65533 ∧ K = 1), s[pos]'hp⟩ :: restU s.data.toList (pos + K)) := by
          have hsl := HSL.out
          have h1 := restU_step s.data.toList pos (by omega) (by rw [HD1.out]; exact HM.out)
          rw [HD1.out] at h1
          have hb : badAt (List.drop pos s.data.toList) = decide (R = 65533 ∧ K = 1) := by unfold badAt; rw [HD1.out]
          rw [hb] at h1
          exact hid h1
        have hext : (s.extract pos s.size).size = s.size - pos := Lib.tail_size s pos
        clear hext
        by_cases hbad : R = 65533 ∧ K = 1
        · obtain ⟨hr, hk⟩ := hbad
          have hrb : ((R : Int) == 65533) = true := by simp [hr]
          have hkb : ((K : Int) == 1) = true := by simp [hk]
          have hk1 : K ≤ 1 := by omega
          have HR := hid hr
          have HK := hid hk
          clear hr hk
          obtain ⟨x, hx⟩ : ∃ x, s[pos]'hp = x := ⟨_, rfl⟩
          obtain ⟨y, hy⟩ : ∃ y, x.toNat = y := ⟨_, rfl⟩
          have hyl : y < 256 := by rw [← hy]; exact x.toNat_lt
          rw [hx] at hrest
          have HX := hid hx
          obtain ⟨i37, hi, hz, hsi, hby⟩ := info_parts info37
          rcases hq with hq | ⟨hq, hq'⟩
          ·
            go_wp2_with (fail)
            refine CD.out.mono ?_
            rintro e W2 ⟨rfl, hb2⟩
            have hM3 := hM2.below hb2
            have hit3 := (hb2.block _ hltW).trans hit2
            have hdm3 := hM3.2.1
            have hsz3 : w.heap.size ≤ W2.heap.size := hM3.2.2.size
            clear hb2 hM2 hit2 CD hnx
            go_wp2_with (at_builtin; refine wpList_append_own _ rfl _ _ 23 rfl w.heap.size 37 i37 (.agg #[.int .i64 0, .int .i64 0]) 2 16 Tryd.underlying23 hi hz hsi hby rfl (by decide) _ ds.length (dmgCells ds) rfl (World.ownsRow.alloc hdm3 _) ⟨W2.heap.size, 0, none⟩ 1 1 [.int .i64 (pos : Int), .int .i64 (y : Int)] rfl rfl ?c11 ?c12 ?c13 ?c14 ?c15 ?_)
            case c11 => exact cell_two_new _ _ _ _
            case c12 => intro u hu; simp at hu; rcases hu with rfl | rfl <;> rfl
            case c13 => unfold maxLen; omega
            case c14 => omega
            case c15 => simp; omega
            intro v' w3 hown' hgrow _
            have hM4 := hM3.damage pos y x hy hown' hgrow
            have hit4 := iter_grown (w := W2.alloc _) ((Below.heap_alloc W2 _ _ (Array.getElem?_eq_some_iff.1 hit3).1).trans hit3) hgrow (hdm3.ne_iter hit3)
            have hsz4 : w.heap.size ≤ w3.heap.size := hM4.2.2.size
            have hM4b := hM4.1
            go_wp2_with (go_at_call 31; refine (builder_WriteRune w.heap.size w.heap.size (byteCells acc) (R : Int) (by omega) (by omega) _ hM4b (by rw [byteCells_length]; omega) hsz4).mono ?_; rintro e w4 ⟨rfl, h4, b4, k4⟩)
            have hM5 := hM4.write R h4 b4 k4
            have hit5 := k4.iter hit4 (by omega)
            have hne := (encN_len R).2
            go_roundw
            case rel =>
              have hr1 := hrest.out
              rw [decide_eq_true (And.intro HR.out HK.out)] at hr1
              refine ⟨pos + K, _, _, hit5, hM5, ?_, ?_, ?_, ?_⟩
              · have := hacc.out
                rw [hr1, textT_cons] at this
                exact hid (by rw [List.append_assoc]; exact this)
              · have := hds.out
                rw [hr1, dmgT_bad] at this
                exact hid (by rw [List.append_assoc]; exact this)
              · simp; omega
              · simp; omega
            case measure =>
              simp only [World.iterPos, hit5, HIT.out]
              omega
          ·
            go_wp2_with (fail)
            refine CD.out.mono ?_
            rintro e W2 ⟨rfl, hb2⟩
            have hM3 := hM2.below hb2
            have hit3 := (hb2.block _ hltW).trans hit2
            have hdm3 := hM3.2.1
            have hsz3 : w.heap.size ≤ W2.heap.size := hM3.2.2.size
            clear hb2 hM2 hit2 CD hnx
            go_wp2_with (at_builtin; refine wpList_append_own _ rfl _ _ 23 rfl w.heap.size 37 i37 (.agg #[.int .i64 0, .int .i64 0]) 2 16 Tryd.underlying23 hi hz hsi hby rfl (by decide) _ ds.length (dmgCells ds) rfl (World.ownsRow.alloc hdm3 _) ⟨W2.heap.size, 0, none⟩ 1 1 [.int .i64 (pos : Int), .int .i64 (y : Int)] rfl rfl ?c21 ?c22 ?c23 ?c24 ?c25 ?_)
            case c21 => exact cell_two_new _ _ _ _
            case c22 => intro u hu; simp at hu; rcases hu with rfl | rfl <;> rfl
            case c23 => unfold maxLen; omega
            case c24 => omega
            case c25 => simp; omega
            intro v' w3 hown' hgrow _
            have hM4 := hM3.damage pos y x hy hown' hgrow
            have hit4 := iter_grown (w := W2.alloc _) ((Below.heap_alloc W2 _ _ (Array.getElem?_eq_some_iff.1 hit3).1).trans hit3) hgrow (hdm3.ne_iter hit3)
            have hsz4 : w.heap.size ≤ w3.heap.size := hM4.2.2.size
            have hM4b := hM4.1
            go_wp2_with (go_at_call 31; refine (builder_WriteRune w.heap.size w.heap.size (byteCells acc) (R : Int) (by omega) (by omega) _ hM4b (by rw [byteCells_length]; omega) hsz4).mono ?_; rintro e w4 ⟨rfl, h4, b4, k4⟩)
            have hM5 := hM4.write R h4 b4 k4
            have hit5 := k4.iter hit4 (by omega)
            have hne := (encN_len R).2
            go_roundw
            case rel =>
              have hr1 := hrest.out
              rw [decide_eq_true (And.intro HR.out HK.out)] at hr1
              refine ⟨pos + K, _, _, hit5, hM5, ?_, ?_, ?_, ?_⟩
              · have := hacc.out
                rw [hr1, textT_cons] at this
                exact hid (by rw [List.append_assoc]; exact this)
              · have := hds.out
                rw [hr1, dmgT_bad] at this
                exact hid (by rw [List.append_assoc]; exact this)
              · simp; omega
              · simp; omega
            case measure =>
              simp only [World.iterPos, hit5, HIT.out]
              omega
        · have hqb : (((R : Int) == 65533) = false) ∨ (((R : Int) == 65533) = true ∧ ((K : Int) == 1) = false) := by
            by_cases h0 : R = 65533
            · exact .inr ⟨by simp [h0], by simp; omega⟩
            · exact .inl (by simp; omega)
          have HB := hid hbad
          clear hbad
          rcases hq with hq | ⟨hq, hq'⟩ <;> rcases hqb with hqb | ⟨hqb, hqb'⟩
          all_goals
            go_wp2_with (fail)
            refine CD.out.mono ?_
            rintro e W2 ⟨rfl, hb2⟩
            have hM3 := hM2.below hb2
            have hit3 := (hb2.block _ hltW).trans hit2
            have hdm3 := hM3.2.1
            have hsz3 : w.heap.size ≤ W2.heap.size := hM3.2.2.size
            clear hb2 hM2 hit2 CD hnx
            have hM3b := hM3.1
            go_wp2_with (go_at_call 31; refine (builder_WriteRune w.heap.size w.heap.size (byteCells acc) (R : Int) (by omega) (by omega) _ hM3b (by rw [byteCells_length]; omega) hsz3).mono ?_; rintro e w4 ⟨rfl, h4, b4, k4⟩)
            have hM5 := hM3.write R h4 b4 k4
            have hit5 := k4.iter hit3 (by omega)
            have hne := (encN_len R).2
            go_roundw
            case rel =>
              have hr1 := hrest.out
              rw [decide_eq_false HB.out] at hr1
              refine ⟨pos + K, _, _, hit5, hM5, ?_, ?_, ?_, ?_⟩
              · have := hacc.out
                rw [hr1, textT_cons] at this
                exact hid (by rw [List.append_assoc]; exact this)
              · have := hds.out
                rw [hr1, dmgT_good] at this
                exact hid this
              · simp; omega
              · omega
            case measure =>
              simp only [World.iterPos, hit5, HIT.out]
              omega
    · have e0 := restU_end s.data.toList pos (by omega)
      have hnx : ∀ ty, (Instr.next (.pointer (some ⟨w.heap.size + 1, 0, none⟩)) true ty).run Tryd.prog wr = _ := fun ty => Lib.run_next_end_at wr (w.heap.size + 1) s pos ty hit hp
      have ea := hacc.out
      have ed := hds.out
      rw [e0] at ea ed
      simp only [textT, dmgT, List.flatMap_nil, List.filter_nil, List.map_nil, List.append_nil] at ea ed
      have EA := hid ea
      have ED := hid ed
      clear ea ed e0 hsl hT hit
      have hszw : w.heap.size ≤ wr.heap.size := hbw.size
      have hM1 := hM.1
      have hdm := hM.2.1
      go_wp2_with (go_at_call 32; refine (builder_String w.heap.size w.heap.size acc _ hM1 hszw).mono ?_; rintro e w3 ⟨rfl, h3, b3, k3⟩)
      go_ret2
      obtain rfl : acc = T := EA.out
      obtain rfl : ds = D := ED.out
      exact ⟨_, rfl, hdm.others k3 (hdm.ne_builder hM1), hbw.trans b3⟩
end Go.Proofs.YtcjomjhaimlbmaaDoor
