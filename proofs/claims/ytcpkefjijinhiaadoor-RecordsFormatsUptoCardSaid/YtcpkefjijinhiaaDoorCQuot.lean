/-
  The code's reader of layer 2: the text of a quoted field. Conditions: the reader lies in memory; its text has at most 65536 bytes; the problems are a row of the call's own.
-/
import Derived.Test.YtcpkefjijinhiaaDoorCPlain
set_option linter.unusedVariables false
namespace Go.Proofs.YtcpkefjijinhiaaDoor
open Go Go.Proofs Go.RowKit Go.Lib

theorem builder_rolled {k g : Nat} {bs : List Value} {w w' : World} (h : IsBuilderF 67 5 k k bs w) (hr : Rolled g w w') (hg : g < k) : IsBuilderF 67 5 k k bs w' := by
  have key : ∀ p, BuilderAtF 67 5 k k p bs w → BuilderAtF 67 5 k k p bs w' := by
    rintro p ⟨hB, u, hb, ⟨h1, h2⟩, hne⟩
    refine ⟨hB, u, (hr.block k (by omega)).trans hb, ⟨h1, ?_⟩, hne⟩
    rcases h2 with h2 | ⟨j, cap, cur, fz, hv, hj, hh, r⟩
    · exact .inl h2
    · exact .inr ⟨j, cap, cur, fz, hv, hj, (hr.block j (by omega)).trans hh, r⟩
  rcases h with h | h
  · exact .inl (key _ h)
  · exact .inr (key _ h)
theorem row_low {w w' : World} {B K e z n : Nat} {v : Value} {xs : List Value} (h : w.ownsRow B e z v n xs) (hb : Below K w w') (hlt : ∀ j, v.ownBlock = some j → j < K) : w'.ownsRow B e z v n xs := by
  obtain ⟨h1, h2⟩ := h
  refine ⟨h1, ?_⟩
  rcases h2 with h2 | ⟨k, cap, cur, hk, hg, hh, r⟩
  · exact .inl h2
  · exact .inr ⟨k, cap, cur, hk, hg, (hb.block k (hlt k (by rw [hk]; rfl))).trans hh, r⟩
theorem CKept.thenBelow {B g : Nat} {a b c : World} (h : CKept B g a b) (hb : Below a.heap.size b c) (hB : B ≤ a.heap.size := by omega) : CKept B g a c :=
  ⟨hb.os.trans h.os, hb.tape.trans h.tape, hb.output.trans h.output, Nat.le_trans h.size hb.size, fun k hk hg => (hb.block k (by omega)).trans (h.low k hk hg),
   fun k cs T fz hc hg hT => (hb.block k (Array.getElem?_eq_some_iff.1 hc).1).trans (h.others k cs T fz hc hg hT)⟩
theorem quotP_none {L : Str} {D Q : UInt8} {a : Nat} (h : qEnd Q (L.drop (a + 1)) = none) : quotP L D Q a = .bad ⟨lineOf L a, colP L a, 8⟩ L.length := by
  unfold quotP
  rw [h]
theorem quotP_some {L : Str} {D Q : UInt8} {a n x : Nat} {t : Str} (h : qEnd Q (L.drop (a + 1)) = some (t, n)) (hx : a + 1 + n = x) : quotP L D Q a =
    if endL (L.drop x) = true ∨ (L.drop x).head? = some D then .ok ⟨t, colP L a, true⟩ x else .bad ⟨lineOf L x, colP L x, 8⟩ (nxt L x) := by
  subst hx
  unfold quotP
  rw [h]

theorem below_drewNg (w : World) (n B : Nat) : Below B w (w.drewN n) :=
  ⟨(Rolled.drawn 0 w n).os, (Rolled.drawn 0 w n).tape, (Rolled.drawn 0 w n).output, by rw [(Rolled.drawn 0 w n).size]; exact Nat.le_refl _, fun k _ => drewN_heap w n k⟩
set_option maxHeartbeats 4000000 in
set_option maxRecDepth 100000 in
theorem quoted_any (g a B : Nat) (S : ByteArray) (D Q : UInt8) (pv : Value) (ps : List Prob) (w : World) (h : CRd w g S D Q a pv) (hp : ProbRow w B pv ps) (hps : ps.length ≤ 1000000) (hBw : B ≤ w.heap.size) (hq : ((lst S).drop a).head? = some Q) :
    Calls Tryd.prog 69 #[.pointer (some ⟨g, 0, none⟩)] w (TextOut g B S D Q ps w (quotP (lst S) D Q a)) := by
  have hgl := (Array.getElem?_eq_some_iff.1 h.cells).1
  have hsm := h.small
  have hlt : a < S.size := by
    rcases Nat.lt_or_ge a S.size with h' | h'
    · exact h'
    · rw [List.drop_of_length_le (by rw [← Lib.size_eq]; exact h')] at hq; simp at hq
  have hb0 := Below.alloc (Below.refl w.heap.size w) (Nat.le_refl _) (.cells #[.pointer none, .slice none 0 0] 67)
  have hbu : IsBuilderF 67 5 w.heap.size w.heap.size (byteCells []) (w.alloc (.cells #[.pointer none, .slice none 0 0] 67)) :=
    IsBuilderF.of (.inl ⟨Nat.le_refl _, _, heap_alloc_new w _, World.ownsRow_nil _ _ _ _, by simp [Value.ownBlock]⟩)
  have hC1 := h.below hb0
  have cA := fun n => rest_any g a S D Q pv _ (hC1.drawn n)
  have cT := fun w => trim_first ((lst S).drop a) Q w hq
  have hd1 : ((lst S).drop a).drop 1 = (lst S).drop (a + 1) := by rw [List.drop_drop]
  rw [hd1] at cT
  have c5 := hC1.c5
  have H := hid h
  have HP := hid hp
  have HBW := hid hBw
  have HPS := hid hps
  have HB0 := hid hb0
  have HBU := hid hbu
  have HC1 := hid hC1
  obtain ⟨v0, hv0⟩ : ∃ v, strV ((lst S).drop a) = v := ⟨_, rfl⟩
  obtain ⟨v1, hv1⟩ : ∃ v, strV ((lst S).drop (a + 1)) = v := ⟨_, rfl⟩
  simp only [hv0] at cA cT
  rw [hv1] at cT
  have HV1 := hid hv1
  clear h hp hBw hps hb0 hbu hC1 hq hd1 hv0 hv1
  go_enter Tryd.func69, Tryd.ntmps69
  go_wp2_with fail
  generalize hw1 : w.alloc (.cells #[.pointer none, .slice none 0 0] 67) = w1 at *
  go_quiet ((first | (go_at_call 51; with_reducible refine Calls.quiet_of (cA _)) | (go_at_call 82; with_reducible refine Calls.quiet_of_same (cT _))))
  have hB := HB0.out.trans (below_drewNg w1 nq w.heap.size)
  have hU := builder_rolled HBU.out (Rolled.drawn g w1 nq) hgl
  clear cA cT c5 HC1 HB0 HBU hw1
  generalize w1.drewN nq = w2 at hB hU ⊢
  have HB := hid hB
  have HU := hid hU
  clear hB hU
  go_wp2_with fail
  go_loopg [5] (S.size + 1) (fun gk rv wx => ∃ (a' : Nat) (b : Str), rv = strV ((lst S).drop a') ∧ a + 1 ≤ a' ∧ a' ≤ S.size ∧ Hid (QInv (lst S) Q (a + 1) a' b) ∧ Hid (IsBuilderF 67 5 w.heap.size w.heap.size (byteCells b) wx) ∧ Hid (Below w.heap.size w wx) ∧ b.length ≤ a' ∧ S.size - a' < gk)
  case atStart => exact ⟨a + 1, [], HV1.out.symm, Nat.le_refl _, by omega, hid (QInv.start _ _ _), HU, HB, by simp, by omega⟩
  case round =>
    obtain ⟨a', b, hrv, haa, hle', hI, hU, hB, hbl, hgk⟩ := hrel
    obtain ⟨g', rfl⟩ : ∃ g', gk = g' + 1 := ⟨gk - 1, by omega⟩
    have hrl : ((lst S).drop a').length = S.size - a' := by rw [List.length_drop, ← Lib.size_eq]
    have hC := H.out.below hB.out
    have hP := row_under HP.out hB.out
    have hK := CKept.below (g := g) hB.out HBW.out
    have hBx : B ≤ wr.heap.size := Nat.le_trans HBW.out hB.out.size
    have c5 := hC.c5
    have cC := cut65 ((lst S).drop a') Q wr (by omega)
    rw [← hrv] at cC
    have HC := hid hC
    have HPr := hid hP
    have HK := hid hK
    clear hC hP hK HU HB
    cases hf : has Q ((lst S).drop a') with
    | false =>
      have hQ := quotP_none (D := D) (hI.out.open_ hf)
      rw [hf] at cC
      have HQ := hid hQ
      clear hQ hf hI
      obtain ⟨v1, hv1⟩ : ∃ v, strV (bef Q ((lst S).drop a')) = v := ⟨_, rfl⟩
      obtain ⟨v2, hv2⟩ : ∃ v, strV (aft Q ((lst S).drop a')) = v := ⟨_, rfl⟩
      rw [hv1, hv2] at cC
      clear hv1 hv2 hrv
      go_wp2_with fail
      refine cC.mono ?_
      rintro e w3 ⟨rfl, n3, rfl⟩
      have hK3 := HK.out.trans (CKept.drawn B g wr n3)
      go_wp2_with fail
      refine (report_any g a B S D Q pv ps 8 _ (HC.out.drawn n3) (row_drawn HPr.out n3) HPS.out (Nat.le_trans HBW.out hK3.size)).mono ?_
      rintro e w4 ⟨rfl, pv', hC4, hP4, hK4⟩
      go_wp2_with fail
      have cT := passTo_any g a [] S D Q pv' w4 hC4 (by simp; omega)
      unfold strV at cT
      refine cT.mono ?_
      rintro e w5 ⟨rfl, hC5, hR5⟩
      go_wp2
      go_ret2
      rw [HQ.out]
      refine ⟨(hK3.trans hK4).trans (CKept.rolled hR5), pv', ?_, ⟨[], rfl⟩, hR5.row hP4 (prob_ne hP4 hC4.cells (by decide))⟩
      show CRd w5 g S D Q (lst S).length pv'
      rw [← Lib.size_eq]
      exact hC5
    | true =>
      have hcut := hI.out.cut haa hf
      have h0 := congrArg List.length (bef_hit Q _ hf)
      simp only [List.length_append, List.length_cons] at h0
      rw [hrl] at h0
      have hda := aft_drop Q _ hf
      rw [List.drop_drop] at hda
      rw [hf] at cC
      have cP := fun w => prefix_one (aft Q ((lst S).drop a')) Q w
      have cTr := fun w => trim_first (aft Q ((lst S).drop a')) Q w
      obtain ⟨p, hp⟩ : ∃ p, bef Q ((lst S).drop a') = p := ⟨_, rfl⟩
      obtain ⟨r, hr⟩ : ∃ r, aft Q ((lst S).drop a') = r := ⟨_, rfl⟩
      rw [hp, hr] at cC
      rw [hp, hr] at hcut
      rw [hp, hr] at h0
      rw [hp, hr] at hda
      simp only [hr] at cP cTr
      have hw1 : ∀ wx (hu : IsBuilderF 67 5 w.heap.size w.heap.size (byteCells b) wx) (hw : w.heap.size ≤ wx.heap.size), Calls Tryd.prog 35 #[.pointer (some ⟨w.heap.size, 0, none⟩), strV p] wx fun e w' => (∃ n, e = .returned (.tuple #[.int .i64 n, .nilIface])) ∧ (IsBuilderF 67 5 w.heap.size w.heap.size (byteCells (b ++ p)) w' ∧ Below w.heap.size wx w') := by
        intro wx hu hw
        refine (builder_WriteString w.heap.size w.heap.size (byteCells b) ⟨p.toArray⟩ wx hu (by rw [byteCells_len]; show b.length + p.length ≤ _; omega) hw).mono ?_
        rintro e w' ⟨rfl, h1, h2, _⟩
        refine ⟨⟨_, rfl⟩, .inr ?_, h2⟩
        rw [byteCells_app]
        exact h1
      have hw2 : ∀ wx (hu : IsBuilderF 67 5 w.heap.size w.heap.size (byteCells (b ++ p)) wx) (hw : w.heap.size ≤ wx.heap.size), Calls Tryd.prog 35 #[.pointer (some ⟨w.heap.size, 0, none⟩), .string ⟨#[Q]⟩] wx fun e w' => (∃ n, e = .returned (.tuple #[.int .i64 n, .nilIface])) ∧ (IsBuilderF 67 5 w.heap.size w.heap.size (byteCells (b ++ p ++ [Q])) w' ∧ Below w.heap.size wx w') := by
        intro wx hu hw
        refine (builder_WriteString w.heap.size w.heap.size (byteCells (b ++ p)) ⟨#[Q]⟩ wx hu (by rw [byteCells_len, List.length_append]; show b.length + p.length + 1 ≤ _; omega) hw).mono ?_
        rintro e w' ⟨rfl, h1, h2, _⟩
        refine ⟨⟨_, rfl⟩, .inr ?_, h2⟩
        rw [byteCells_app]
        exact h1
      have W1 := hid hw1
      have W2 := hid hw2
      have HC0 := hid hcut
      have HD := hid hda
      have CTR := hid cTr
      have hlr : a' + p.length + 1 + r.length = S.size := by omega
      clear hw1 hw2 hcut hda cTr hf hp hr hrv h0 hI
      obtain ⟨vp, hvp⟩ : ∃ v, strV p = v := ⟨_, rfl⟩
      obtain ⟨vr, hvr⟩ : ∃ v, strV r = v := ⟨_, rfl⟩
      rw [hvp, hvr] at cC
      rw [hvp] at W1
      simp only [hvr] at cP
      have HVR := hid hvr
      clear hvp hvr
      go_wp2_with fail
      refine cC.mono ?_
      rintro e w3 ⟨rfl, n3, rfl⟩
      have hU3 := builder_rolled hU.out (Rolled.drawn g wr n3) hgl
      have hB3 := hB.out.trans (below_drewNg wr n3 w.heap.size)
      go_wp2_with fail
      refine (W1.out _ hU3 hB3.size).mono ?_
      rintro e w4 ⟨⟨nn, rfl⟩, hU4, hB4'⟩
      have hB4 := hB3.trans hB4'
      have hC4 := H.out.below hB4
      have c54 := hC4.c5
      have HU4 := hid hU4
      have HB4 := hid hB4
      have HC4 := hid hC4
      clear hU3 hB3 hU4 hB4' hB4 hC4 c5 HC HPr HK hU hB W1
      go_wp2_with fail
      refine (cP _).mono ?_
      rintro e w4' ⟨rfl, rfl⟩
      by_cases hh : r.head? = some Q
      · have hb : (r.head? == some Q) = true := by simpa using hh
        rw [hb]
        have hcut := HC0.out
        rw [if_pos hh] at hcut
        have cTr := fun w => CTR.out w hh
        have hdr : r.drop 1 = (lst S).drop (a' + p.length + 2) := by
          rw [← HD.out, List.drop_drop, show a' + (p.length + 1) + 1 = a' + p.length + 2 by omega]
        rw [hdr] at cTr
        rw [HVR.out] at cTr
        have hl2 := hcut.2
        rw [← Lib.size_eq] at hl2
        have HI2 := hid hcut.1
        clear hb hh hcut hdr HC0 CTR HD
        obtain ⟨v2, hv2⟩ : ∃ v, strV ((lst S).drop (a' + p.length + 2)) = v := ⟨_, rfl⟩
        simp only [hv2] at cTr
        go_wp2_with fail
        refine (W2.out _ HU4.out HB4.out.size).mono ?_
        rintro e w5 ⟨⟨nn2, rfl⟩, hU5, hB5'⟩
        have hB5 := HB4.out.trans hB5'
        have c55 := (H.out.below hB5).c5
        have HU5 := hid hU5
        have HB5 := hid hB5
        clear hU5 hB5 hB5' HU4 HB4 HC4 c54
        go_wp2_with fail
        refine (cTr _).mono ?_
        rintro e w5 ⟨rfl, rfl⟩
        go_wp2
        go_roundg g'
        case measure => omega
        case rel => exact ⟨a' + p.length + 2, b ++ p ++ [Q], hv2.symm, by omega, hl2, HI2, HU5, HB5, by simp; omega, by omega⟩
      · have hb : (r.head? == some Q) = false := by simpa using hh
        rw [hb]
        have hcut := HC0.out
        rw [if_neg hh] at hcut
        obtain ⟨x, hx⟩ : ∃ x, a' + p.length + 1 = x := ⟨_, rfl⟩
        have hQ := quotP_some (D := D) (a := a) (x := x) hcut.1 (by omega)
        have HQ := hid hQ
        have hxr : S.size - r.length = x := by omega
        have cT := passTo_any g a r S D Q pv _ HC4.out (by omega)
        rw [hxr, HVR.out] at cT
        have hP4 := row_under HP.out HB4.out
        have hKk := CKept.below (g := g) HB4.out HBW.out
        clear hb hh hcut hQ HC0 CTR HD hxr W2 c54
        go_wp2_with fail
        refine cT.mono ?_
        rintro e w5 ⟨rfl, hC5, hR5⟩
        have hU5 := builder_rolled HU4.out hR5 hgl
        have hP5 := hR5.row hP4 (prob_ne hP4 HC4.out.cells (by decide))
        have hK5 := hKk.trans (CKept.rolled hR5)
        clear cT hP4 hKk HU4 HB4 HC4
        go_wp2_with fail
        refine (builder_String w.heap.size w.heap.size (b ++ p) w5 hU5 hK5.size).mono ?_
        rintro e w6 ⟨rfl, _, hB6, _⟩
        have hP6 : ProbRow w6 B pv ps := row_low hP5 hB6 (fun j hj => (World.ownsRow.lt HP.out j hj).2)
        have hC6 := hC5.rolled (hB6.block g hgl)
        have hK6 := hK5.thenBelow hB6 HBW.out
        clear hU5 hP5 hC5 hR5 hK5 hB6
        obtain ⟨vs, hvs⟩ : ∃ v, Value.string ⟨(b ++ p).toArray⟩ = v := ⟨_, rfl⟩
        rw [hvs]
        go_wp2_with fail
        refine (endQuoted_any g x B S D Q pv ps w6 hC6 hP6 HPS.out (Nat.le_trans HBW.out hK6.size)).mono ?_
        rintro e w7 ⟨hK7, pv', hpos, hneg⟩
        by_cases hE : endL ((lst S).drop x) = true ∨ ((lst S).drop x).head? = some D
        · obtain ⟨rfl, hC7, hP7⟩ := hpos hE
          go_wp2
          go_ret2
          rw [HQ.out, if_pos hE]
          refine ⟨hK6.trans hK7, pv', hC7, ?_, hP7⟩
          rw [← hvs]
          rfl
        · obtain ⟨rfl, hC7, hP7⟩ := hneg hE
          go_wp2
          go_ret2
          rw [HQ.out, if_neg hE]
          refine ⟨hK6.trans hK7, pv', hC7, ⟨b ++ p, ?_⟩, hP7⟩
          rw [← hvs]
          rfl
end Go.Proofs.YtcpkefjijinhiaaDoor
