/-
  Read of travel. Conditions: the records lie in memory; the library's variable holds an error.
-/
import Derived.Test.YtocmbifljkcmeaaDoorR8AJ
import Derived.Test.YtocmbifljkcmeaaDoorBI
set_option linter.unusedVariables false
namespace Go.Proofs.YtocmbifljkcmeaaDoor
open Go Go.Proofs Go.RowKit Go.Lib

/-- What reading ways leaves behind. -/
def ReadOut8 (o : TabD × List ProbD) (w : World) (e : Ending) (w' : World) : Prop :=
  (∃ A c S d v2, e = .returned (.tuple #[.agg #[.slice A o.1.1.length c, .slice S o.1.2.length d], v2]) ∧ TravIn w' (fun b => w.heap.size ≤ b ∧ b < w'.heap.size) A S o.1 ∧ o.1.1.length ≤ c ∧ c ≤ 9223372036854775807 ∧ ProbsRow w' w.heap.size v2 o.2) ∧ Below w.heap.size w w'
theorem row_low8 {w : World} {e z n B B' : Nat} {v : Value} {xs : List Value} (h : w.ownsRow B e z v n xs) (hB : B' ≤ B) : w.ownsRow B' e z v n xs := by
  refine ⟨h.1, ?_⟩
  rcases h.2 with h2 | ⟨g, cap, cur, hv, hg, r⟩
  · exact .inl h2
  · exact .inr ⟨g, cap, cur, hv, Nat.le_trans hB hg, r⟩
set_option maxHeartbeats 8000000 in
set_option maxRecDepth 100000 in
theorem read8_any (A : Option Addr) (l : List RecD) (c : Nat) (w : World) (h : RecsIn w (fun k => k < w.heap.size) A l) (hl : l.length ≤ 1073741824) (hE : Env8 w) :
    Calls Tryd.prog 16 #[.slice A l.length c] w (ReadOut8 (readT l) w) := by
  have hr1 := Box2.new w 25 (.slice none 0 0) (.slice none 0 0)
  have hb1 := (Below.refl w.heap.size w).alloc (Nat.le_refl _) (.cells #[.slice none 0 0, .slice none 0 0] 25)
  have hs1 : (w.alloc (.cells #[.slice none 0 0, .slice none 0 0] 25)).heap.size = w.heap.size + 1 := by simp
  obtain ⟨w1, hw1⟩ : ∃ W, w.alloc (.cells #[.slice none 0 0, .slice none 0 0] 25) = W := ⟨_, rfl⟩
  rw [hw1] at hr1 hb1 hs1
  have hn2 := Box2.new w1 66 (.slice none 0 0) (.slice none 0 0)
  have hb2 := (Below.refl w1.heap.size w1).alloc (Nat.le_refl _) (.cells #[.slice none 0 0, .slice none 0 0] 66)
  have hs2 : (w1.alloc (.cells #[.slice none 0 0, .slice none 0 0] 66)).heap.size = w1.heap.size + 1 := by simp
  obtain ⟨w2, hw2⟩ : ∃ W, w1.alloc (.cells #[.slice none 0 0, .slice none 0 0] 66) = W := ⟨_, rfl⟩
  rw [hw2] at hn2 hb2 hs2
  have hb12 : Below w.heap.size w w2 := hb1.trans (hb2.mono (by omega))
  have hr2 := hr1.next hb2
  have cE := entries8_any A l c w1.heap.size w2 (by omega) ((h.below hb12).mono (fun k hk => by omega)) hl (fun W hb => hE.below (hb12.trans (hb.mono (by omega))) hE.size) hn2
  have CE := hid cE
  have HR2 := hid hr2
  have HB2 := hid hb12
  have HS1 := hid hs1
  have HS2 := hid hs2
  obtain ⟨L, hL⟩ : ∃ L, l.length = L := ⟨_, rfl⟩
  have HL := hid hL
  rw [hL] at CE
  rw [hL]
  unfold ReadOut8 readT
  unfold EntsOut8 at CE
  have hnet := recsW_net l
  obtain ⟨⟨N, ps⟩, hR⟩ : ∃ R, recsW l = R := ⟨_, rfl⟩
  rw [hR] at CE hnet
  rw [hR]
  dsimp only at CE hnet ⊢
  have HNET := hid hnet
  clear h hE hr1 hb1 hn2 hb2 hr2 hb12 cE hL hnet hR hs1 hs2
  go_enter Tryd.func16, Tryd.ntmps16
  go_upto_region 1 with fail
  (try rw [hw1])
  clear hw1
  go_wp2_with fail
  refine CE.out.mono ?_
  rintro e w3 ⟨v1, v2, n0, n1, rfl, hI⟩
  have hM : w1.heap.size < w2.heap.size := by have := HS2.out; omega
  have hnl : N.1.length ≤ 1073741824 := Nat.le_trans HNET.out.w hl
  have cT := table_any w1.heap.size w2.heap.size l.length N n0 n1 w3 hM hI.below.size hI.net HNET.out hnl
  unfold TabOut8 at cT
  have CT := hid cT
  have HI := hid hI
  have HM := hid hM
  obtain ⟨A1, c1, rfl, _, _, _⟩ := hI.net.strs.strsIn
  clear hI cT hM hnl CE
  go_wp2_with fail
  refine CT.out.mono ?_
  rintro e w4 ⟨⟨S, d, rfl, hd1, hd2, htab⟩, hb4⟩
  have hb34 : Below w.heap.size w w4 := (HB2.out.trans (HI.out.below.mono (by have := HS1.out; omega))).trans (hb4.mono (by have := HB2.out.size; have := HI.out.below.size; omega))
  have hr4 := (HR2.out.kept (HI.out.below.block w.heap.size (by have := HS1.out; omega))).next hb4
  have hst4 : S3.StrRow w4 w2.heap.size (.slice A1 N.2.length c1) N.2 := row_under HI.out.net.strs hb4
  have hpr4 : ProbsRow w4 w2.heap.size v2 ps := row_under HI.out.probs hb4
  obtain ⟨r0, r1⟩ := And.intro hr4.c0 hr4.c1
  have f0 := hr4.free 0
  have f1 := hr4.free 1
  have HR4 := hid hr4
  have HB34 := hid hb34
  have HST4 := hid hst4
  have HPR4 := hid hpr4
  have HTAB := hid htab
  obtain ⟨nb, hnb⟩ : ∃ n, N.2.length = n := ⟨_, rfl⟩
  have HNB := hid hnb
  rw [hnb] at hd1 ⊢
  clear hr4 hb34 hst4 hpr4 htab hnb hb4 CT HR2
  go_wp2
  have hz := HR4.out.set (.slice A1 nb c1) (.slice S nb d)
  have hk : ∀ b, b ≠ w.heap.size → ((w4.setCell ⟨w.heap.size, 0, none⟩ (.slice A1 nb c1)).setCell ⟨w.heap.size, 1, none⟩ (.slice S nb d)).heap[b]? = w4.heap[b]? := fun b hb => by
    rw [heap_setCell_other _ _ _ _ (by show b ≠ w.heap.size; omega), heap_setCell_other _ _ _ _ (by show b ≠ w.heap.size; omega)]
  obtain ⟨A2, c2, he2, hc1, hc2, hin⟩ := HST4.out.strsIn
  have hw2s : w.heap.size < w2.heap.size := by have := HS1.out; have := HM.out; omega
  have hw3s := HI.out.below.size
  injection he2 with e1 e2 e3
  subst e1
  subst e3
  have hlen : (tabF (tabW N) N.2.length).length = nb := by rw [tabF_len, HNB.out]
  refine bodyPost_ret (v := .tuple #[.agg #[.slice A1 nb c1, .slice S nb d], v2]) (results_ct rfl _ _ _ ⟨w.heap.size, 0, none⟩ _ _ rfl rfl (loadTrav hz.c0 hz.c1)) rfl ⟨⟨A1, c1, S, d, v2, by rw [hlen, HNB.out], ⟨?_, ?_⟩, by rw [HNB.out] at hc1; rw [HNB.out]; exact hc1, hc2, ?_⟩, (HB34.out.setCell (p := ⟨w.heap.size, 0, none⟩) (Nat.le_refl _) _).setCell (p := ⟨w.heap.size, 1, none⟩) (Nat.le_refl _) _⟩
  · exact (hin.kept (fun b hb => hk b (by omega))).mono (fun b hb => ⟨by omega, by simpa using hb.2⟩)
  · exact (HTAB.out.kept (fun b hb => hk b (by omega))).mono (fun b hb => ⟨by omega, by simpa using hb.2⟩)
  · refine row_low8 ?_ (Nat.le_of_lt hw2s)
    exact own_block HPR4.out (fun g hg => hk g (by have := (World.ownsRow.lt HPR4.out g hg).1; omega))
end Go.Proofs.YtocmbifljkcmeaaDoor
