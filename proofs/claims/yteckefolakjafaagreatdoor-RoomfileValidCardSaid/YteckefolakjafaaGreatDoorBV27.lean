/-
  The first error of rooms by the specification: Valid. Conditions: the rooms lie in memory.
  The reference's tail and number: a code's last number. Conditions: as the lemmas state.
  A number with a width: the law's wide. Conditions: the number is not negative and below 2^31; the width is at most 16.
-/
import Derived.Test.YteckefolakjafaaGreatDoorBV25
import Derived.Test.YteckefolakjafaaGreatDoorBV26
import Derived.Test.YteckefolakjafaaGreatDoorBV13
import Derived.Test.YteckefolakjafaaGreatDoorBV19
import Derived.Test.YteckefolakjafaaGreatDoorBV14
import Derived.Test.YteckefolakjafaaGreatDoorBV17
import Derived.StillTailTactics
import Derived.BigQuiet
import Derived.RangeFuncBox
set_option linter.unusedVariables false
namespace Go.Proofs.YteckefolakjafaaGreatDoor
open Go Go.Proofs Go.RowKit Go.Lib

/-- What holds while a room is looked at by the specification. -/
structure KV (w0 : World) (d s b m : Int) (X : Nat) (v0 v1 v2 v3 v4 : Value) (w : World) : Prop where
  x : Box5 w X v0 v1 v2 v3 v4
  g : Box4 w w0.heap.size d s b m
  b : Below w0.heap.size w0 w
  l : w0.heap.size < X
theorem KV.next {w0 w w' : World} {d s b m : Int} {X : Nat} {v0 v1 v2 v3 v4 : Value} (h : KV w0 d s b m X v0 v1 v2 v3 v4 w) (k : Below w.heap.size w w') : KV w0 d s b m X v0 v1 v2 v3 v4 w' :=
  ⟨h.x.below k h.x.lt, h.g.next k h.g.lt, h.b.trans (k.mono h.b.size), h.l⟩
theorem KV.drew {w0 w : World} {d s b m : Int} {X : Nat} {v0 v1 v2 v3 v4 : Value} (h : KV w0 d s b m X v0 v1 v2 v3 v4 w) : KV w0 d s b m X v0 v1 v2 v3 v4 w.drew := h.next (Below.refl _ w).drew
theorem KV.drewN {w0 w : World} {d s b m : Int} {X : Nat} {v0 v1 v2 v3 v4 : Value} (h : KV w0 d s b m X v0 v1 v2 v3 v4 w) (q : Nat) : KV w0 d s b m X v0 v1 v2 v3 v4 (w.drewN q) := h.next ((Rolled.drawn w.heap.size w q).below (Nat.le_refl _))
theorem KV.k1 {w0 w : World} {d s b m : Int} {X : Nat} {v0 v1 v2 v3 v4 : Value} (h : KV w0 d s b m X v0 v1 v2 v3 v4 w) : K1 w0 d s b m w := ⟨h.g, h.b⟩
theorem any_false {p : TimeD → Bool} {l : List TimeD} (h : ∀ j (hj : j < l.length), p l[j] = false) : l.any p = false := by
  rw [List.any_eq_false]
  intro x hx
  obtain ⟨j, hj, rfl⟩ := List.mem_iff_getElem.1 hx
  rw [h j hj]
  simp
theorem any_true {p : TimeD → Bool} {l : List TimeD} (j : Nat) (hj : j < l.length) (h : p l[j] = true) : l.any p = true := List.any_eq_true.2 ⟨_, List.getElem_mem hj, h⟩

set_option maxHeartbeats 16000000 in
set_option maxRecDepth 100000 in
theorem rrvalid_any (d s b m n : Int) (A : Option Addr) (l : List RoomD) (c : Nat) (w : World) (h : RoomsIn w (fun k => k < w.heap.size) A l) :
    Calls Tryz.prog 9 #[.slice A l.length c, .agg #[.int .i64 d, .int .i64 s, .int .i64 b, .int .i64 m], .int .i64 n] w (Says (.int .i64 (validR d s b m n l)) w) := by
  have cF := fun w => usable_any d s b m n w
  have cU := fun k y t l' w => rfits_any d s b m n k y t l' w
  unfold Says at cF cU ⊢
  obtain ⟨R, hR⟩ : ∃ R, validR d s b m n l = R := ⟨_, rfl⟩
  rw [hR]
  unfold validR at hR
  have hk := K1.first w d s b m 24
  have HK := hid hk
  have HH := hid h
  clear hk h
  cases hf : frameB d s b m n with
  | false =>
    rw [hf] at cF hR
    rw [if_pos rfl] at hR
    subst hR
    clear hf
    go_enter Tryz.func9, Tryz.ntmps9
    go_wp2_with fail
    refine (cF _).mono ?_
    rintro e w1 ⟨rfl, hb⟩
    have hk := HK.out.next hb
    clear hb HK
    go_wp2
    go_ret
    exact ⟨rfl, hk.b⟩
  | true =>
    rw [hf] at cF hR
    rw [if_neg (by simp)] at hR
    by_cases h16 : 16 < l.length
    · rw [if_pos h16] at hR
      subst hR
      have hz : (16 : Int) < (l.length : Int) := by omega
      clear hf
      go_enter Tryz.func9, Tryz.ntmps9
      go_wp2_with fail
      refine (cF _).mono ?_
      rintro e w1 ⟨rfl, hb⟩
      have hk := HK.out.next hb
      clear hb HK
      go_wp2
      go_ret
      exact ⟨rfl, hk.b⟩
    · rw [if_neg h16] at hR
      have hz : ¬ (16 : Int) < (l.length : Int) := by omega
      have HR : Hid (goV d s b m n (codesR (l.take 0)) (l.drop 0) = R) := hid hR
      clear hf hR
      go_enter Tryz.func9, Tryz.ntmps9
      go_wp2_with fail
      refine (cF _).mono ?_
      rintro e w1 ⟨rfl, hb⟩
      have hk := HK.out.next hb
      have HK1 := hid hk
      clear hb HK hk
      go_wp2
      go_loopw [7, 8, 9, 10] (fun iv _ _ _ wr => ∃ i : Nat, iv = .int .i64 (i : Int) ∧ i ≤ l.length ∧ Hid (goV d s b m n (codesR (l.take i)) (l.drop i) = R) ∧ Hid (K1 w d s b m wr)) (fun iv _ _ _ _ => l.length - (RowKit.intOf iv).toNat)
      case atStart => exact ⟨0, rfl, Nat.zero_le _, HR, hid HK1.out⟩
      case round =>
        obtain ⟨i, rfl, hi, hE, hK⟩ := hrel
        by_cases hlt : i < l.length
        · have hltz : (i : Int) < (l.length : Int) := by omega
          have hst := goV_step d s b m n l i hlt
          rw [hE.out] at hst
          obtain ⟨fb, fo, ⟨A1, c1, A2, c2⟩, rfl, hfb, hri, ⟨y0, y1, y2, y3, y4⟩⟩ := (HH.out.below hK.out.b).at_ hlt
          have hadd : codesR (l.take (i + 1)) = codesR (l.take i) ++ [l[i].1] := by rw [List.take_succ_eq_append_getElem hlt]; unfold codesR; rw [List.map_append]; rfl
          obtain ⟨⟨code, bld, seats, fs, ts⟩, hr⟩ : ∃ r, l[i] = r := ⟨_, rfl⟩
          rw [hr] at hst y0 y1 y2 y3 y4 hadd hri
          obtain ⟨hf, ht, hf1, hf2, ht1, ht2⟩ := hri
          dsimp only at hst y0 y1 y2 y3 y4 hadd hf ht hf1 hf2 ht1 ht2
          have cV1 := fun w => S3.refValid_any (ba code) w
          have cV2 := fun w => S3.refValid_any (ba bld) w
          rw [show (ba code).data.toList = code from rfl] at cV1
          rw [show (ba bld).data.toList = bld from rfl] at cV2
          have cA : ∀ W, Below w.heap.size wr W → Calls Tryz.prog 26 #[.slice A1 fs.length c1] W fun e w' => e = .returned (.bool (featB fs)) ∧ ∃ q, w' = W.drewN q := fun W hb => rcodes_any A1 fs c1 _ W (S3.StrsIn.below hf hb) hf1 hf2
          have hT : ∀ W, Below w.heap.size wr W → TimesIn W (fun b => b < w.heap.size) A2 ts := fun W hb => ht.below hb
          obtain ⟨V1, hV1⟩ : ∃ V, S3.validC code = V := ⟨_, rfl⟩
          obtain ⟨V2, hV2⟩ : ∃ V, S3.validC bld = V := ⟨_, rfl⟩
          obtain ⟨FB, hFB⟩ : ∃ V, featB fs = V := ⟨_, rfl⟩
          obtain ⟨E, hE2⟩ : ∃ E, roomM d s b m n (code, bld, seats, fs, ts) = E := ⟨_, rfl⟩
          rw [hE2] at hst
          unfold roomM at hE2
          dsimp only at hE2
          rw [hV1] at cV1 hE2
          rw [hV2] at cV2 hE2
          rw [hFB] at cA hE2
          obtain ⟨X1, hX1⟩ : ∃ X, ba code = X := ⟨_, rfl⟩
          obtain ⟨X2, hX2⟩ : ∃ X, ba bld = X := ⟨_, rfl⟩
          obtain ⟨F1, hF1⟩ : ∃ F, fs.length = F := ⟨_, rfl⟩
          rw [hX1] at y0 cV1
          rw [hX2] at y1 cV2
          rw [hF1] at y3 cA hE2
          have hX1l : lst X1 = code := by rw [← hX1]; rfl
          have HXL := hid hX1l
          have HST := hid hst
          have HADD := hid hadd
          have HT := hid hT
          have CA := hid cA
          have HW := hid (hK.out)
          have hb1 := (Below.refl wr.heap.size wr).alloc (Nat.le_refl _) (.cells #[.string X1, .string X2, .int .i64 seats, .slice A1 F1 c1, .slice A2 ts.length c2] 46)
          have hs1 : (wr.alloc (.cells #[.string X1, .string X2, .int .i64 seats, .slice A1 F1 c1, .slice A2 ts.length c2] 46)).heap.size = wr.heap.size + 1 := by simp
          have hk1 : KV w d s b m wr.heap.size (.string X1) (.string X2) (.int .i64 seats) (.slice A1 F1 c1) (.slice A2 ts.length c2) (wr.alloc (.cells #[.string X1, .string X2, .int .i64 seats, .slice A1 F1 c1, .slice A2 ts.length c2] 46)) := ⟨Box5.new wr _ _ _ _ _, (hK.out.next hb1).x, (hK.out.next hb1).b, hK.out.x.lt⟩
          have HB1 : Hid (Below w.heap.size wr (wr.alloc (.cells #[.string X1, .string X2, .int .i64 seats, .slice A1 F1 c1, .slice A2 ts.length c2] 46))) := hid (hb1.mono hK.out.b.size)
          have HKV := hid hk1
          clear hr hV1 hV2 hFB hX1 hX2 hF1 hX1l hst hadd hf ht hf1 hf2 ht1 ht2 cA hT hb1 hs1 hk1 hfb hE
          cases V1 with
          | false =>
            have HRR : Hid (R = 10) := hid (by have h := HST.out; rw [← hE2] at h; simpa using h)
            clear hE2
            go_wp2_with fail
            have hk := HKV.out
            generalize wr.alloc (.cells #[.string X1, .string X2, .int .i64 seats, .slice A1 F1 c1, .slice A2 ts.length c2] 46) = w1 at HB1 hk ⊢
            clear HKV
            obtain ⟨⟨x0, x1, x2, x3, x4⟩, ⟨g0, g1, g2, g3, _⟩⟩ := And.intro hk.x.cells hk.g
            have HKV := hid hk
            clear hk y0 y1 y2 y3 y4
            refine (cV1 _).mono ?_
            rintro e w' ⟨rfl, rfl⟩
            go_wp2
            go_ret
            rw [HRR.out]
            exact ⟨rfl, HKV.out.b⟩
          | true =>
          cases V2 with
          | false =>
            have HRR : Hid (R = 10) := hid (by have h := HST.out; rw [← hE2] at h; simpa using h)
            clear hE2
            go_wp2_with fail
            have hk := HKV.out
            generalize wr.alloc (.cells #[.string X1, .string X2, .int .i64 seats, .slice A1 F1 c1, .slice A2 ts.length c2] 46) = w1 at HB1 hk ⊢
            clear HKV
            obtain ⟨⟨x0, x1, x2, x3, x4⟩, ⟨g0, g1, g2, g3, _⟩⟩ := And.intro hk.x.cells hk.g
            have HKV := hid hk
            clear hk y0 y1 y2 y3 y4
            refine (cV1 _).mono ?_
            rintro e w' ⟨rfl, rfl⟩
            go_wp2_with fail
            refine (cV2 _).mono ?_
            rintro e w' ⟨rfl, rfl⟩
            go_wp2
            go_ret
            rw [HRR.out]
            exact ⟨rfl, HKV.out.b⟩
          | true =>
          rw [if_neg (by simp)] at hE2
          by_cases s1 : seats < 1
          · have s1' : decide (seats < 1) = true := decide_eq_true s1
            rw [if_pos (.inl s1)] at hE2
            have HRR : Hid (R = 3) := hid (by have h := HST.out; rw [← hE2] at h; simpa using h)
            clear hE2
            go_wp2_with fail
            have hk := HKV.out
            generalize wr.alloc (.cells #[.string X1, .string X2, .int .i64 seats, .slice A1 F1 c1, .slice A2 ts.length c2] 46) = w1 at HB1 hk ⊢
            clear HKV
            obtain ⟨⟨x0, x1, x2, x3, x4⟩, ⟨g0, g1, g2, g3, _⟩⟩ := And.intro hk.x.cells hk.g
            have HKV := hid hk
            clear hk y0 y1 y2 y3 y4
            refine (cV1 _).mono ?_
            rintro e w' ⟨rfl, rfl⟩
            go_wp2_with fail
            refine (cV2 _).mono ?_
            rintro e w' ⟨rfl, rfl⟩
            go_wp2
            go_ret
            rw [HRR.out]
            exact ⟨rfl, HKV.out.b⟩
          have s1' : decide (seats < 1) = false := decide_eq_false s1
          by_cases s2 : 9999 < seats
          · have s2' : decide (9999 < seats) = true := decide_eq_true s2
            rw [if_pos (.inr s2)] at hE2
            have HRR : Hid (R = 3) := hid (by have h := HST.out; rw [← hE2] at h; simpa using h)
            clear hE2
            go_wp2_with fail
            have hk := HKV.out
            generalize wr.alloc (.cells #[.string X1, .string X2, .int .i64 seats, .slice A1 F1 c1, .slice A2 ts.length c2] 46) = w1 at HB1 hk ⊢
            clear HKV
            obtain ⟨⟨x0, x1, x2, x3, x4⟩, ⟨g0, g1, g2, g3, _⟩⟩ := And.intro hk.x.cells hk.g
            have HKV := hid hk
            clear hk y0 y1 y2 y3 y4
            refine (cV1 _).mono ?_
            rintro e w' ⟨rfl, rfl⟩
            go_wp2_with fail
            refine (cV2 _).mono ?_
            rintro e w' ⟨rfl, rfl⟩
            go_wp2
            go_ret
            rw [HRR.out]
            exact ⟨rfl, HKV.out.b⟩
          have s2' : decide (9999 < seats) = false := decide_eq_false s2
          rw [if_neg (by omega)] at hE2
          by_cases z1 : 8 < F1
          · have z1' : (8 : Int) < (F1 : Int) := by omega
            have z1d : decide ((8 : Int) < (F1 : Int)) = true := decide_eq_true z1'
            rw [if_pos (.inl z1)] at hE2
            have HRR : Hid (R = 2) := hid (by have h := HST.out; rw [← hE2] at h; simpa using h)
            clear hE2
            go_wp2_with fail
            have hk := HKV.out
            generalize wr.alloc (.cells #[.string X1, .string X2, .int .i64 seats, .slice A1 F1 c1, .slice A2 ts.length c2] 46) = w1 at HB1 hk ⊢
            clear HKV
            obtain ⟨⟨x0, x1, x2, x3, x4⟩, ⟨g0, g1, g2, g3, _⟩⟩ := And.intro hk.x.cells hk.g
            have HKV := hid hk
            clear hk y0 y1 y2 y3 y4
            refine (cV1 _).mono ?_
            rintro e w' ⟨rfl, rfl⟩
            go_wp2_with fail
            refine (cV2 _).mono ?_
            rintro e w' ⟨rfl, rfl⟩
            go_wp2
            go_ret
            rw [HRR.out]
            exact ⟨rfl, HKV.out.b⟩
          have z1' : ¬ (8 : Int) < (F1 : Int) := by omega
          have z1d : decide ((8 : Int) < (F1 : Int)) = false := decide_eq_false z1'
          by_cases z2 : 24 < ts.length
          · have z2' : (24 : Int) < (ts.length : Int) := by omega
            have z2d : decide ((24 : Int) < (ts.length : Int)) = true := decide_eq_true z2'
            rw [if_pos (.inr z2)] at hE2
            have HRR : Hid (R = 2) := hid (by have h := HST.out; rw [← hE2] at h; simpa using h)
            clear hE2
            go_wp2_with fail
            have hk := HKV.out
            generalize wr.alloc (.cells #[.string X1, .string X2, .int .i64 seats, .slice A1 F1 c1, .slice A2 ts.length c2] 46) = w1 at HB1 hk ⊢
            clear HKV
            obtain ⟨⟨x0, x1, x2, x3, x4⟩, ⟨g0, g1, g2, g3, _⟩⟩ := And.intro hk.x.cells hk.g
            have HKV := hid hk
            clear hk y0 y1 y2 y3 y4
            refine (cV1 _).mono ?_
            rintro e w' ⟨rfl, rfl⟩
            go_wp2_with fail
            refine (cV2 _).mono ?_
            rintro e w' ⟨rfl, rfl⟩
            go_wp2
            go_ret
            rw [HRR.out]
            exact ⟨rfl, HKV.out.b⟩
          have z2' : ¬ (24 : Int) < (ts.length : Int) := by omega
          have z2d : decide ((24 : Int) < (ts.length : Int)) = false := decide_eq_false z2'
          rw [if_neg (by omega)] at hE2
          cases FB with
          | false =>
            have HRR : Hid (R = 10) := hid (by have h := HST.out; rw [← hE2] at h; simpa using h)
            clear hE2
            go_wp2_with fail
            have hk := HKV.out
            generalize wr.alloc (.cells #[.string X1, .string X2, .int .i64 seats, .slice A1 F1 c1, .slice A2 ts.length c2] 46) = w1 at HB1 hk ⊢
            clear HKV
            obtain ⟨⟨x0, x1, x2, x3, x4⟩, ⟨g0, g1, g2, g3, _⟩⟩ := And.intro hk.x.cells hk.g
            have HKV := hid hk
            clear hk y0 y1 y2 y3 y4
            refine (cV1 _).mono ?_
            rintro e w' ⟨rfl, rfl⟩
            go_wp2_with fail
            refine (cV2 _).mono ?_
            rintro e w' ⟨rfl, rfl⟩
            go_wp2_with fail
            refine (CA.out _ HB1.out).mono ?_
            rintro e w2 ⟨rfl, qq, rfl⟩
            have hk := HKV.out.drewN qq
            have hbb := HB1.out.trans (((Rolled.drawn w1.heap.size w1 qq).below (B := w1.heap.size) (Nat.le_refl _)).mono (Nat.le_trans hK.out.b.size HB1.out.size))
            generalize w1.drewN qq = w2 at hk hbb ⊢
            have HKV := hid hk
            have HB2 := hid hbb
            clear hk hbb x0 x1 x2 x3 x4 g0 g1 g2 g3
            obtain ⟨⟨x0, x1, x2, x3, x4⟩, ⟨g0, g1, g2, g3, _⟩⟩ := And.intro HKV.out.x.cells HKV.out.g
            go_wp2
            go_ret
            rw [HRR.out]
            exact ⟨rfl, HKV.out.b⟩
          | true =>
            rw [if_neg (by simp)] at hE2
            have HE2 := hid hE2
            clear hE2
            go_wp2_with fail
            have hk := HKV.out
            generalize wr.alloc (.cells #[.string X1, .string X2, .int .i64 seats, .slice A1 F1 c1, .slice A2 ts.length c2] 46) = w1 at HB1 hk ⊢
            clear HKV
            obtain ⟨⟨x0, x1, x2, x3, x4⟩, ⟨g0, g1, g2, g3, _⟩⟩ := And.intro hk.x.cells hk.g
            have HKV := hid hk
            clear hk y0 y1 y2 y3 y4
            refine (cV1 _).mono ?_
            rintro e w' ⟨rfl, rfl⟩
            go_wp2_with fail
            refine (cV2 _).mono ?_
            rintro e w' ⟨rfl, rfl⟩
            go_wp2_with fail
            refine (CA.out _ HB1.out).mono ?_
            rintro e w2 ⟨rfl, qq, rfl⟩
            have hk := HKV.out.drewN qq
            have hbb := HB1.out.trans (((Rolled.drawn w1.heap.size w1 qq).below (B := w1.heap.size) (Nat.le_refl _)).mono (Nat.le_trans hK.out.b.size HB1.out.size))
            generalize w1.drewN qq = w2 at hk hbb ⊢
            have HKV := hid hk
            have HB2 := hid hbb
            clear hk hbb x0 x1 x2 x3 x4 g0 g1 g2 g3
            obtain ⟨⟨x0, x1, x2, x3, x4⟩, ⟨g0, g1, g2, g3, _⟩⟩ := And.intro HKV.out.x.cells HKV.out.g
            obtain ⟨X, hXX⟩ : ∃ X, wr.heap.size = X := ⟨_, rfl⟩
            rw [hXX] at HKV
            go_wp2
            go_loopw [9] (fun kv wq => ∃ k : Nat, kv = .int .i64 (k : Int) ∧ k ≤ ts.length ∧ Hid (∀ j (hj : j < ts.length), j < k → unfitB d s b m n ts[j] = false) ∧ Hid (KV w d s b m X (.string X1) (.string X2) (.int .i64 seats) (.slice A1 F1 c1) (.slice A2 ts.length c2) wq) ∧ Hid (Below w.heap.size wr wq)) (fun kv _ => ts.length - (RowKit.intOf kv).toNat)
            case atStart => exact ⟨0, rfl, Nat.zero_le _, hid (fun j _ h => absurd h (Nat.not_lt_zero _)), hid HKV.out, hid HB2.out⟩
            case round =>
              clear x0 x1 x2 x3 x4 g0 g1 g2 g3 HKV HB2 HB1
              obtain ⟨k, rfl, hk, hall, HKV, HB2⟩ := hrel
              obtain ⟨⟨x0, x1, x2, x3, x4⟩, ⟨g0, g1, g2, g3, _⟩⟩ := And.intro HKV.out.x.cells HKV.out.g
              by_cases hkl : k < ts.length
              · have hklz : (k : Int) < (ts.length : Int) := by omega
                have dk : decide (ts.length ≤ k) = false := decide_eq_false (by omega)
                obtain ⟨tb, tf, rfl, htb, t0, t1, t2, t3⟩ := (HT.out _ HB2.out).at_ hkl
                have HKD := hid HKV.out.drew
                have HBD := hid (HB2.out.trans ((Below.refl w.heap.size _).drew))
                obtain ⟨_, _, hA2', _, t0', t1', t2', t3'⟩ := (HT.out _ HBD.out).at_ hkl
                injection hA2' with hA2'
                injection hA2' with e1 e2 _
                subst e1 e2
                obtain ⟨⟨x0', x1', x2', x3', x4'⟩, ⟨g0', g1', g2', g3', _⟩⟩ := And.intro HKD.out.x.cells HKD.out.g
                have cU' := fun w => cU ts[k].1 ts[k].2.1 ts[k].2.2.1 ts[k].2.2.2 w
                have hub : unfitB d s b m n ts[k] = decide (fitsM d s b m n ts[k].1 ts[k].2.1 ts[k].2.2.1 ts[k].2.2.2 ≠ 0) := rfl
                obtain ⟨U, hU⟩ : ∃ U, fitsM d s b m n ts[k].1 ts[k].2.1 ts[k].2.2.1 ts[k].2.2.2 = U := ⟨_, rfl⟩
                rw [hU] at cU' hub
                have CU := hid cU'
                have HUB := hid hub
                obtain ⟨n0, hn0⟩ : ∃ n, ts[k].1 = n := ⟨_, rfl⟩
                obtain ⟨n1, hn1⟩ : ∃ n, ts[k].2.1 = n := ⟨_, rfl⟩
                obtain ⟨n2, hn2⟩ : ∃ n, ts[k].2.2.1 = n := ⟨_, rfl⟩
                obtain ⟨n3, hn3⟩ : ∃ n, ts[k].2.2.2 = n := ⟨_, rfl⟩
                rw [hn0] at t0 t0' CU
                rw [hn1] at t1 t1' CU
                rw [hn2] at t2 t2' CU
                rw [hn3] at t3 t3' CU
                clear hn0 hn1 hn2 hn3 hU cU' hub
                go_upto_region 20 with fail
                go_still_tail 7, (by kernel_rfl)
                change wpList _ _ _ _ _ wr.drew
                go_wp2_with fail
                refine (CU.out _).mono ?_
                rintro e w3 ⟨rfl, hb3⟩
                have HK3 := hid (HKD.out.next hb3)
                have HB3 := hid (HBD.out.trans (hb3.mono HKD.out.b.size))
                clear hb3 HKD HBD CU t0 t1 t2 t3 t0' t1' t2' t3' x0 x1 x2 x3 x4 x0' x1' x2' x3' x4' g0 g1 g2 g3 g0' g1' g2' g3'
                by_cases hU0 : U = 0
                · have u1 : (U != 0) = false := by simpa using hU0
                  have u2 : (U == 0) = true := by simpa using hU0
                  have HA2 : Hid (∀ j (hj : j < ts.length), j < k + 1 → unfitB d s b m n ts[j] = false) := hid (fun j hj hjk => by
                    by_cases e : j = k
                    · subst e
                      rw [HUB.out]
                      exact decide_eq_false (fun h => h hU0)
                    · exact hall.out j hj (by omega))
                  clear hU0
                  go_wp2
                  go_roundw
                  case rel => exact ⟨k + 1, by go_num, by omega, HA2, HK3, HB3⟩
                  case measure => simp [RowKit.intOf]; omega
                · have u1 : (U != 0) = true := by simpa using hU0
                  have u2 : (U == 0) = false := by simpa using hU0
                  have hE3 := HE2.out
                  rw [if_pos (any_true k hkl (by rw [HUB.out]; exact decide_eq_true hU0))] at hE3
                  have HRR : Hid (R = 14) := hid (by have h := HST.out; rw [← hE3] at h; simpa using h)
                  clear hU0 hE3
                  go_wp2
                  go_ret
                  rw [HRR.out]
                  exact ⟨rfl, HK3.out.b⟩
              · have hklz : ¬ (k : Int) < (ts.length : Int) := by omega
                have hE3 := HE2.out
                rw [if_neg (by rw [any_false (fun j hj => hall.out j hj (by omega))]; simp)] at hE3
                have HST2 : Hid (R = if code ∈ codesR (l.take i) then 11 else goV d s b m n (codesR (l.take (i + 1))) (l.drop (i + 1))) := hid (by have h := HST.out; rw [← hE3] at h; simpa using h)
                clear hE3
                go_wp2
                go_loopw [10] (fun kv wq => ∃ k : Nat, kv = .int .i64 (k : Int) ∧ k ≤ i ∧ Hid (∀ j (hj : j < l.length), j < k → l[j].1 ≠ code) ∧ Hid (KV w d s b m X (.string X1) (.string X2) (.int .i64 seats) (.slice A1 F1 c1) (.slice A2 ts.length c2) wq)) (fun kv _ => i - (RowKit.intOf kv).toNat)
                case atStart => exact ⟨0, rfl, Nat.zero_le _, hid (fun j _ h => absurd h (Nat.not_lt_zero _)), hid HKV.out⟩
                case round =>
                  clear x0 x1 x2 x3 x4 g0 g1 g2 g3 HKV HB2 hall hklz
                  obtain ⟨k, rfl, hk, hall, HKV⟩ := hrel
                  obtain ⟨x0, x1, x2, x3, x4⟩ := HKV.out.x.cells
                  by_cases hkl : k < i
                  · have hklz : (k : Int) < (i : Int) := by omega
                    have hkl2 : k < l.length := by omega
                    have hklz2 : (k : Int) < (l.length : Int) := by omega
                    have dk : decide (l.length ≤ k) = false := decide_eq_false (by omega)
                    obtain ⟨_, _, q2, hA2', _, _, ⟨c0, _, _, _, _⟩⟩ := (HH.out.below HKV.out.b).at_ hkl2
                    injection hA2' with hA2'
                    injection hA2' with e1 e2 _
                    subst e1 e2
                    obtain ⟨y, hy⟩ : ∃ y, l[k].1 = y := ⟨_, rfl⟩
                    have HY := hid hy
                    rw [hy] at c0
                    obtain ⟨Y, hY⟩ : ∃ Y, ba y = Y := ⟨_, rfl⟩
                    rw [hY] at c0
                    have hYl : lst Y = y := by rw [← hY]; rfl
                    have tx : X1.toList = code := by rw [show X1.toList = lst X1 from Lib.toList_data X1]; exact HXL.out
                    have ty : Y.toList = y := by rw [show Y.toList = lst Y from Lib.toList_data Y]; exact hYl
                    by_cases hxy : y = code
                    · have b1 : (Y.toList == X1.toList) = true := by rw [tx, ty, hxy]; simp
                      have b2 : (Y.toList != X1.toList) = false := by rw [tx, ty, hxy]; simp
                      have HRR : Hid (R = 11) := hid (by
                        rw [HST2.out, if_pos]
                        unfold codesR
                        rw [← hxy, ← HY.out]
                        exact List.mem_map.2 ⟨l[k], List.mem_iff_getElem.2 ⟨k, by rw [List.length_take]; omega, by rw [List.getElem_take]⟩, rfl⟩)
                      clear hy hY hYl tx ty hxy
                      go_wp2
                      go_quiet (fail)
                      go_wp2
                      go_ret
                      rw [HRR.out]
                      exact ⟨rfl, (HKV.out.drewN nq).b⟩
                    · have b1 : (Y.toList == X1.toList) = false := by rw [tx, ty]; simpa using hxy
                      have b2 : (Y.toList != X1.toList) = true := by rw [tx, ty]; simpa using hxy
                      have HA2 : Hid (∀ j (hj : j < l.length), j < k + 1 → l[j].1 ≠ code) := hid (fun j hj hjk => by
                        by_cases e : j = k
                        · subst e
                          rw [HY.out]
                          exact hxy
                        · exact hall.out j hj (by omega))
                      clear hy hY hYl tx ty hxy
                      go_wp2
                      go_quiet (fail)
                      go_wp2
                      go_roundw
                      case rel => exact ⟨k + 1, by go_num, by omega, HA2, hid (HKV.out.drewN nq)⟩
                      case measure => simp [RowKit.intOf]; omega
                  · have hklz : ¬ (k : Int) < (i : Int) := by omega
                    have HRR : Hid (goV d s b m n (codesR (l.take (i + 1))) (l.drop (i + 1)) = R) := hid (by
                      rw [HST2.out, if_neg]
                      intro hm
                      unfold codesR at hm
                      obtain ⟨r, hr, hrc⟩ := List.mem_map.1 hm
                      obtain ⟨j, hj, rfl⟩ := List.mem_iff_getElem.1 hr
                      rw [List.length_take] at hj
                      rw [List.getElem_take] at hrc
                      exact hall.out j (by omega) (by omega) hrc)
                    go_wp2
                    go_roundw
                    case rel => exact ⟨i + 1, by go_num, by omega, HRR, hid HKV.out.k1⟩
                    case measure => simp [RowKit.intOf]; omega
        · have hltz : ¬ (i : Int) < (l.length : Int) := by omega
          have hn : Hid (R = 0) := hid (by rw [← hE.out, List.drop_of_length_le (by omega)]; rfl)
          go_wp2
          go_ret
          rw [hn.out]
          exact ⟨rfl, hK.out.b⟩
end Go.Proofs.YteckefolakjafaaGreatDoor

set_option linter.unusedVariables false
namespace Go.Proofs.YteckefolakjafaaGreatDoor.S3
open Go Go.Proofs Go.RowKit Go.Lib

theorem pre_dg (s : Str) (x : UInt8) (h0 : 0 < (preS s).length) (hx : s[(preS s).length - 1]? = some x) : dg x = false := by
  have hs := pre_split s
  have h2 : (preS s)[(preS s).length - 1]? = some x := by
    have : s[(preS s).length - 1]? = (preS s ++ lastS s)[(preS s).length - 1]? := by rw [hs]
    rw [this, List.getElem?_append_left (by omega)] at hx
    exact hx
  rw [← List.getLast?_eq_getElem?] at h2
  obtain ⟨ys, h3⟩ := List.getLast?_eq_some_iff.1 h2
  exact pre_end s _ x h3
theorem last_dg (s : Str) (j : Nat) (x : UInt8) (h : (preS s).length ≤ j) (hx : s[j]? = some x) : dg x = true := by
  refine last_dgs s x ?_
  refine List.mem_of_getElem? (i := j - (preS s).length) ?_
  unfold lastS
  rw [List.getElem?_drop, show (preS s).length + (j - (preS s).length) = j by omega]
  exact hx
theorem lst_get (s : ByteArray) (j : Nat) (h : j < s.size) : (lst s)[j]? = some (s[j]'h) := by
  have : j < s.data.size := h
  show s.data.toList[j]? = _
  rw [Array.getElem?_toList, Array.getElem?_eq_getElem this]
  rfl

set_option maxHeartbeats 4000000 in
set_option maxRecDepth 100000 in
theorem tail_any (s : ByteArray) (hs : s.size ≤ 16) (w : World) : Calls Tryz.prog 38 #[.string s] w fun e w' => e = .returned (.tuple #[.string (ba (preS (lst s))), .string (ba (lastS (lst s)))]) ∧ ∃ q, w' = w.drewN q := by
  have hsp := congrArg List.length (pre_split (lst s))
  rw [List.length_append, ← Lib.size_eq] at hsp
  have hD := fun j h h1 => last_dg (lst s) j (s[j]'h) h1 (lst_get s j h)
  have hF := fun h h1 => pre_dg (lst s) (s[(preS (lst s)).length - 1]'h) h1 (lst_get s _ h)
  have e1 : s.extract 0 (preS (lst s)).length = ba (preS (lst s)) := by
    rw [← ba_lst (s.extract 0 (preS (lst s)).length), lst_extract]
    have := congrArg (List.take (preS (lst s)).length) (pre_split (lst s))
    rw [List.take_left] at this
    rw [← this, List.drop_zero]
    rfl
  have e2 : s.extract (preS (lst s)).length s.size = ba (lastS (lst s)) := by
    rw [← ba_lst (s.extract (preS (lst s)).length s.size), lst_extract, List.take_of_length_le (by rw [← Lib.size_eq]; exact Nat.le_refl _)]
    rfl
  rw [← e1, ← e2]
  generalize (preS (lst s)).length = n at hsp hD hF e1 e2 ⊢
  have HD := hid hD
  have HF := hid hF
  have hns : n ≤ s.size := by omega
  clear hD hF e1 e2 hsp
  go_enter Tryz.func38, Tryz.ntmps38
  go_wp2
  go_loop [4] (fun i => ∃ k : Nat, n ≤ k ∧ k ≤ s.size ∧ i = .int .i64 (k : Int)) (fun i => (RowKit.intOf i).toNat)
  case atStart => exact ⟨s.size, hns, Nat.le_refl _, rfl⟩
  case round =>
    obtain ⟨k, hk1, hk2, rfl⟩ := hrel
    rcases Nat.eq_zero_or_pos k with rfl | hk0
    · obtain rfl : n = 0 := by omega
      go_wp2
      go_quiet (fail)
      go_wp2
      go_ret2
      exact ⟨by simp, _, rfl⟩
    · obtain ⟨m, rfl⟩ : ∃ m, k = m + 1 := ⟨k - 1, by omega⟩
      have hm : m < s.size := by omega
      have cD := digit_any (s[m]'hm)
      have hz : (0 : Int) < (m : Int) + 1 := by omega
      have hw : IntKind.i64.wrap ((m : Int) + 1 - 1) = (m : Int) := by rw [IntWalk.i64_in _ (by omega)]; omega
      have hw2 : ((m : Int) + 1 - 1) = (m : Int) := by omega
      by_cases hnm : n ≤ m
      · rw [HD.out m hm hnm] at cD
        go_wp2_with fail
        refine (cD _).mono ?_
        rintro e w1 ⟨rfl, rfl⟩
        go_wp2
        go_roundw
        case rel => exact ⟨m, hnm, by omega, rfl⟩
        case measure => simp [RowKit.intOf]
      · obtain rfl : n = m + 1 := by omega
        have hf : dg (s[m]'hm) = false := HF.out (show m + 1 - 1 < s.size from hm) (by omega)
        rw [hf] at cD
        have h1 : (m : Int) + 1 ≤ (s.size : Int) := by omega
        go_wp2_with fail
        refine (cD _).mono ?_
        rintro e w1 ⟨rfl, rfl⟩
        go_wp2
        go_quiet (fail)
        go_wp2
        go_ret2
        exact ⟨rfl, _, rfl⟩

theorem num_snoc (l : Str) (x : UInt8) : numN (l ++ [x]) = 10 * numN l + (x.toNat - 48) := by
  unfold numN
  rw [List.foldl_append]
  rfl
set_option maxHeartbeats 4000000 in
set_option maxRecDepth 100000 in
theorem number_any (s : ByteArray) (hs : s.size ≤ 16) (hd : Dgs (lst s)) (w : World) : Calls Tryz.prog 72 #[.string s] w fun e w' => e = .returned (.int .i64 (numN (lst s) : Int)) ∧ w = w' := by
  have hN : ∀ k (h : k < s.size), numN ((lst s).take (k + 1)) = 10 * numN ((lst s).take k) + ((s[k]'h).toNat - 48) ∧ 48 ≤ (s[k]'h).toNat ∧ (s[k]'h).toNat ≤ 57 := fun k h => by
    have hg := lst_get s k h
    have h1 := dg_val (hd _ (List.mem_of_getElem? hg))
    refine ⟨?_, h1⟩
    rw [← num_snoc, List.take_add_one, hg]
    rfl
  have hL : ∀ k, k ≤ s.size → numN ((lst s).take k) < 10000000000000001 := fun k h => by
    have h1 := numN_lt ((lst s).take k) (fun c hc => hd c (List.mem_of_mem_take hc))
    have h2 : 10 ^ ((lst s).take k).length ≤ 10 ^ 16 := Nat.pow_le_pow_right (by omega) (by simp; omega)
    have h3 : 10 ^ 16 = 10000000000000000 := by decide
    omega
  have hE : numN (lst s) = numN ((lst s).take s.size) := by rw [List.take_of_length_le (by rw [← Lib.size_eq]; exact Nat.le_refl _)]
  have HN := hid hN
  have HL := hid hL
  have HE := hid hE
  clear hN hL hE hd
  rw [HE.out]
  go_enter Tryz.func72, Tryz.ntmps72
  go_wp2
  go_loop [3, 4] (fun v i => ∃ k n : Nat, k ≤ s.size ∧ i = .int .i64 (k : Int) ∧ v = .int .i64 (n : Int) ∧ Hid (numN ((lst s).take k) = n)) (fun _ i => s.size - (RowKit.intOf i).toNat)
  case atStart => exact ⟨0, 0, Nat.zero_le _, rfl, rfl, hid rfl⟩
  case round =>
    obtain ⟨k, n, hk, rfl, rfl, hv⟩ := hrel
    by_cases hlt : k < s.size
    · obtain ⟨h1, h2, h3⟩ := HN.out k hlt
      have h4 := HL.out k hk
      rw [hv.out] at h1 h4
      have hz : (k : Int) < (s.size : Int) := by omega
      obtain ⟨x, hx⟩ : ∃ x, s[k]'hlt = x := ⟨_, rfl⟩
      rw [hx] at h1 h2 h3
      have q1 : IntKind.u8.wrap ((x.toNat : Int) - 48) = (x.toNat : Int) - 48 := by simp [IntKind.wrap, IntKind.bits, IntKind.signed]; omega
      have q2 : IntKind.i64.wrap ((x.toNat : Int) - 48) = (x.toNat : Int) - 48 := IntWalk.i64_in _ (by omega)
      have q3 : IntKind.i64.wrap (10 * (n : Int)) = 10 * (n : Int) := IntWalk.i64_in _ (by omega)
      have q4 : IntKind.i64.wrap (10 * (n : Int) + ((x.toNat : Int) - 48)) = 10 * (n : Int) + ((x.toNat : Int) - 48) := IntWalk.i64_in _ (by omega)
      have H1 := hid h1
      clear h1
      go_wp2
      go_roundw
      case rel => exact ⟨k + 1, 10 * n + (x.toNat - 48), by omega, by go_num, by congr 1; omega, H1⟩
      case measure => simp [RowKit.intOf]; omega
    · obtain rfl : k = s.size := by omega
      go_wp2
      go_ret
      exact ⟨by rw [hv.out]; rfl, rfl⟩
end Go.Proofs.YteckefolakjafaaGreatDoor.S3

set_option linter.unusedVariables false
namespace Go.Proofs.YteckefolakjafaaGreatDoor.S3
open Go Go.Proofs Go.RowKit Go.Lib

def sLen (v : Value) : Nat := match v with | .string b => b.size | _ => 0
def one48 (d : Nat) : UInt8 := UInt8.ofNat (48 + d)
theorem byte48 (d : Nat) (h : d < 10) : (48 + d).toUInt8 = one48 d := rfl
/-- Between two rounds of the first loop. -/
def WideAt (n u : Nat) (s : Str) : Prop := (s = [] ∧ u = n) ∨ (s ≠ [] ∧ ((u = 0 ∧ s = decDigits n) ∨ (0 < u ∧ decDigits u ++ s = decDigits n)))
theorem WideAt.step {n u : Nat} {s : Str} (h : WideAt n u s) (hg : 0 < u ∨ s = []) : WideAt n (u / 10) (one48 (u % 10) :: s) := by
  have hd : u % 10 < 10 := Nat.mod_lt _ (by omega)
  refine .inr ⟨by simp, ?_⟩
  by_cases hm : u / 10 = 0
  · have hu : u < 10 := by omega
    have hmod : u % 10 = u := Nat.mod_eq_of_lt hu
    refine .inl ⟨hm, ?_⟩
    rw [hmod]
    rcases h with ⟨rfl, rfl⟩ | ⟨hs, ⟨h0, _⟩ | ⟨h0, h1⟩⟩
    · rw [dec_small hu]; rfl
    · rcases hg with hg | hg
      · omega
      · exact absurd hg hs
    · rw [← h1, dec_small hu]; rfl
  · have hu : u = 10 * (u / 10) + u % 10 := by omega
    have hst : decDigits u = decDigits (u / 10) ++ [one48 (u % 10)] := by
      have := dec_step (u / 10) (u % 10) (by omega) hd
      rw [← hu] at this
      exact this
    refine .inr ⟨by omega, ?_⟩
    rcases h with ⟨rfl, rfl⟩ | ⟨hs, ⟨h0, _⟩ | ⟨h0, h1⟩⟩
    · rw [hst]
    · omega
    · rw [← h1, hst]; simp
theorem WideAt.done {n u : Nat} {s : Str} (h : WideAt n u s) (hg : ¬ (0 < u ∨ s = [])) : s = decDigits n := by
  rcases h with ⟨rfl, rfl⟩ | ⟨hs, ⟨h0, h1⟩ | ⟨h0, _⟩⟩
  · exact absurd (.inr rfl) hg
  · exact h1
  · exact absurd (.inl h0) hg

theorem WideAt.len {n u : Nat} {s : Str} (h : WideAt n u s) (hn : n < 2147483648) : s.length ≤ 10 := by
  have hl := dec_len n 10 (by omega) (by omega)
  rcases h with ⟨rfl, rfl⟩ | ⟨hs, ⟨h0, h1⟩ | ⟨h0, h1⟩⟩
  · simp
  · rw [h1]; exact hl
  · have := congrArg List.length h1
    rw [List.length_append] at this
    omega
theorem conv48 (w : World) (u : Nat) : (convert 78 9 (Value.slice (some ⟨w.heap.size, 0, none⟩) 1 1)).run Tryz.prog (w.alloc (Obj.cells #[Value.int IntKind.u8 (48 + (u : Int) % 10)] 5)) =
    .ok (.string ⟨#[one48 (u % 10)]⟩) (w.alloc (Obj.cells #[Value.int IntKind.u8 (48 + (u : Int) % 10)] 5)) := by
  refine run_convert_bytes_back _ 78 9 5 ⟨w.heap.size, 0, none⟩ 1 [one48 (u % 10)] (by kernel_rfl) (by kernel_rfl) (by kernel_rfl) (fun j hj => ?_)
  obtain rfl : j = 0 := by simpa using hj
  have hd : u % 10 < 10 := Nat.mod_lt _ (by omega)
  have : ((one48 (u % 10)).toNat : Int) = 48 + (u : Int) % 10 := by
    unfold one48
    rw [ofNat_val hd]
    omega
  simp only [List.getElem_cons_zero, this]
  exact (Boxed.new w 5 (Value.int IntKind.u8 (48 + (u : Int) % 10))).cell

end Go.Proofs.YteckefolakjafaaGreatDoor.S3

