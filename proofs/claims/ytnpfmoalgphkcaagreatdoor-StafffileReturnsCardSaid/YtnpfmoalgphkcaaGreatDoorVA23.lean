/-
  Lists of lecturers: Check of package entries, Valid of stafffile. Conditions: the lecturers lie in memory.
  The first error of rooms by the specification: Valid. Conditions: the rooms lie in memory.
  The first error of lecturers by the specification: Valid. Conditions: the lecturers lie in memory.
  Whether two lists of strings are equal: the reference's SameStrings. Conditions: both lie in memory.
-/
import Derived.Test.YtnpfmoalgphkcaaGreatDoorVA22
import Derived.Test.YtnpfmoalgphkcaaGreatDoorVA17
import Derived.Test.YtnpfmoalgphkcaaGreatDoorVA14
import Derived.Test.YtnpfmoalgphkcaaGreatDoorVA13
import Derived.Test.YtnpfmoalgphkcaaGreatDoorVA12
import Derived.Sort.Walk0
import Derived.BigQuiet
import Derived.StillTailTactics
set_option linter.unusedVariables false
namespace Go.Proofs.YtnpfmoalgphkcaaGreatDoor
open Go Go.Proofs Go.RowKit Go.Lib

theorem grown_under {w w1 w2 : World} {M : Nat} (h : w.grownBy w1 (some M)) (hb : Below w1.heap.size w1 w2) : w.grownBy w2 (some M) :=
  h.andThen (below_grown hb (Nat.le_refl _)) (fun j hj => by cases hj)
theorem addK_ok {l : List Str} {c : Str} (hm : c ∉ l) (hl : l.length < 32) : addK 32 l c = (l ++ [c], 0) := by
  unfold addK; rw [if_neg hm, if_neg (by omega)]
theorem addK_dup {l : List Str} {c : Str} (hm : c ∈ l) : addK 32 l c = (l, 11) := if_pos hm
/-- What holds around the loop: the boxes. -/
structure CK (d s b m n : Int) (G N KB AB MB M : Nat) (w : World) : Prop where
  g : Box4 w G d s b m
  n : Box1 w N 3 (.int .i64 n)
  d : DistIn w KB AB MB M
  gm : G ≠ M
  nm : N ≠ M
  km : KB ≠ M
  am : AB ≠ M
  mm : MB ≠ M
theorem CK.grown {d s b m n : Int} {G N KB AB MB M : Nat} {w w' : World} (h : CK d s b m n G N KB AB MB M w) (hg : w.grownBy w' (some M)) : CK d s b m n G N KB AB MB M w' := by
  have kb : ∀ k, k < w.heap.size → k ≠ M → w'.heap[k]? = w.heap[k]? := fun k hk hn => hg.block k hk (fun e => hn (Option.some.inj e))
  have hgb := kb _ h.g.lt h.gm
  have hx := h.g
  have kc : ∀ o : Nat, w'.cell? ⟨G, o, none⟩ = w.cell? ⟨G, o, none⟩ := fun o => World.cell?_of_block (w := w) hgb
  exact ⟨⟨(kc 0).trans hx.c0, (kc 1).trans hx.c1, (kc 2).trans hx.c2, (kc 3).trans hx.c3, Nat.lt_of_lt_of_le hx.lt hg.size⟩, h.n.kept (kb _ h.n.lt h.nm),
    h.d.kept (fun k hk => by
      rcases hk with rfl | rfl | rfl
      · exact kb _ h.d.k.lt h.km
      · exact kb _ h.d.a.lt h.am
      · exact kb _ h.d.m.lt h.mm), h.gm, h.nm, h.km, h.am, h.mm⟩

set_option maxHeartbeats 16000000 in
set_option maxRecDepth 100000 in
theorem chk_any (d s b m n : Int) (A : Option Addr) (l : List LectD) (c G N KB AB MB M : Nat) (w : World) (h : LectsIn w (fun k => k < M) A l) (hM : KMap w M []) (hC : CK d s b m n G N KB AB MB M w) :
    Calls Tryz.prog 39 #[.slice A l.length c, .int .i64 32, .func (.func 37) #[] #[.pointer (some ⟨G, 0, none⟩), .pointer (some ⟨N, 0, none⟩)],
      .func (.func 65) #[] #[.pointer (some ⟨KB, 0, none⟩), .pointer (some ⟨AB, 0, none⟩), .pointer (some ⟨MB, 0, none⟩)]] w
      fun e w' => e = .returned (.int .i64 (if 32 < l.length then 2 else goL d s b m n [] l)) ∧ w.grownBy w' (some M) := by
  have eg1 : ∀ args w, (callFunc 37 args).run Tryz.prog w = .ok (.enter 37 args) w := enters_of Tryz.func37 (by kernel_rfl) rfl
  have eg2 : ∀ args w, (callFunc 65 args).run Tryz.prog w = .ok (.enter 65 args) w := enters_of Tryz.func65 (by kernel_rfl) rfl
  obtain ⟨R, hR⟩ : ∃ R, (if 32 < l.length then 2 else goL d s b m n [] l) = R := ⟨_, rfl⟩
  rw [hR]
  have hg0 : w.grownBy w (some M) := grown_none (below_grown (Below.refl _ w) (Nat.le_refl _))
  by_cases h32 : 32 < l.length
  · rw [if_pos h32] at hR
    subst hR
    have hz : (32 : Int) < (l.length : Int) := by omega
    have HG0 := hid hg0
    clear hg0 hC hM h h32
    go_enter Tryz.func39, Tryz.ntmps39
    go_wp2
    go_ret
    exact ⟨rfl, HG0.out⟩
  · rw [if_neg h32] at hR
    have hz : ¬ (32 : Int) < (l.length : Int) := by omega
    have HR : Hid (goL d s b m n (codesL (l.take 0)) (l.drop 0) = R) := hid hR
    have HM := hid hM
    have HC := hid hC
    have HH := hid h
    have HG0 := hid hg0
    have HMl := hid hM.lt
    clear hR hg0 hC hM h
    go_enter Tryz.func39, Tryz.ntmps39
    go_wp2
    go_loopw [10, 11, 12, 19] (fun _ _ _ iv wr => ∃ i : Nat, iv = .int .i64 (i : Int) ∧ i ≤ l.length ∧ Hid (goL d s b m n (codesL (l.take i)) (l.drop i) = R) ∧ Hid (KMap wr M (codesL (l.take i))) ∧ Hid (w.grownBy wr (some M))) (fun _ _ _ iv _ => l.length - (RowKit.intOf iv).toNat)
    case atStart => exact ⟨0, rfl, Nat.zero_le _, HR, hid HM.out, HG0⟩
    case round =>
      obtain ⟨i, rfl, hi, hE, hS, hK⟩ := hrel
      by_cases hlt : i < l.length
      · have hltz : (i : Int) < (l.length : Int) := by omega
        have hst := goL_step d s b m n l i hlt
        rw [hE.out] at hst
        have hcl : (codesL (l.take i)).length = i := by simp [codesL]; omega
        have hCr := HC.out.grown hK.out
        obtain ⟨fb, fo, q, rfl, hfb, hri, y0, y1⟩ := (HH.out.kept (fun k hk => hK.out.block k (Nat.lt_trans hk HMl.out) (fun e => by injection e with e; omega))).at_ hlt
        have hadd : codesL (l.take (i + 1)) = codesL (l.take i) ++ [l[i].1] := by rw [List.take_succ_eq_append_getElem hlt]; unfold codesL; rw [List.map_append]; rfl
        have hMwr : M < wr.heap.size := Nat.lt_of_lt_of_le HMl.out hK.out.size
        have hb1 := (Below.refl wr.heap.size wr).alloc (Nat.le_refl _) (.cells #[.string (ba l[i].1), .slice q.1 l[i].2.length q.2] 34)
        have hX := Box2.new wr (.string (ba l[i].1)) (.slice q.1 l[i].2.length q.2)
        have hs1 : (wr.alloc (.cells #[.string (ba l[i].1), .slice q.1 l[i].2.length q.2] 34)).heap.size = wr.heap.size + 1 := by simp
        obtain ⟨w1, hw1⟩ : ∃ w1, wr.alloc (.cells #[.string (ba l[i].1), .slice q.1 l[i].2.length q.2] 34) = w1 := ⟨_, rfl⟩
        rw [hw1] at hb1 hX hs1
        have hg1 := grown_under hK.out hb1
        have hC1 := HC.out.grown hg1
        have hS1 := hS.out.below hb1
        have cC := lcheck1_any d s b m n l[i] q G N w1 hC1.g hC1.n.cell hC1.n.lt ((hri.kept (fun k hk => hb1.block k (Nat.lt_trans hk hMwr))).mono (fun k hk => by have := hb1.size; omega))
        have hcode : lectM d s b m n l[i] = 0 → l[i].1.length ≤ 16 := fun h => validC_len (lectM_code h)
        unfold Says lectV at cC
        obtain ⟨⟨code, ts⟩, hr⟩ : ∃ r, l[i] = r := ⟨_, rfl⟩
        rw [hr] at hst y0 y1 cC hadd hcode hX hw1
        dsimp only at hst y0 y1 cC hadd hX hw1
        obtain ⟨E, hE2⟩ : ∃ E, lectM d s b m n (code, ts) = E := ⟨_, rfl⟩
        rw [hE2] at cC hst hcode
        dsimp only at hcode
        obtain ⟨X1, hX1⟩ : ∃ X, ba code = X := ⟨_, rfl⟩
        obtain ⟨T1, hT1⟩ : ∃ F, ts.length = F := ⟨_, rfl⟩
        rw [hX1] at y0 cC hX hw1
        rw [hT1] at y1 cC hX hw1
        have hX1l : lst X1 = code := by rw [← hX1]; rfl
        have HXL := hid hX1l
        have HST := hid hst
        have HADD := hid hadd
        have HCODE := hid hcode
        have HCL := hid hcl
        have HW1 := hid hw1
        have HX := hid hX
        have HC1 := hid hC1
        have HG1 := hid hg1
        have HS1 := hid hS1
        have HZ1 := hid hs1
        have CC := hid cC
        clear hr hE2 hX1 hT1 hX1l hst hadd hcode hcl hw1 hX hC1 hg1 hS1 hs1 cC hri hfb hE hK hS hb1 hCr hMwr
        by_cases hE0 : E = 0
        · subst hE0
          have hst := HST.out
          rw [if_neg (by simp)] at hst
          have hcl16 := HCODE.out rfl
          by_cases hm : code ∈ codesL (l.take i)
          · rw [if_pos hm] at hst
            have HRR := hid hst
            clear hst
            go_wp2_with fail
            rw [HW1.out]
            refine CC.out.mono ?_
            rintro e w2 ⟨rfl, hb2⟩
            have hX2 := HX.out.next hb2
            have hS2 := HS1.out.below hb2
            have hg2 := grown_under HG1.out hb2
            have hC2 := HC.out.grown hg2
            obtain ⟨z0, z1⟩ := hX2.cells
            have cA := dist_any KB AB MB M (codesL (l.take i)) X1 q.1 T1 q.2 (by rw [HCL.out]; omega) (by rw [Lib.size_eq]; show (lst X1).length ≤ maxLen; rw [HXL.out]; unfold maxLen; omega) w2 hC2.d hS2
            unfold AddOutK at cA
            rw [HXL.out, addK_dup hm] at cA
            dsimp only at cA
            have CA := hid cA
            have HG2 := hid hg2
            clear cA hC2 hS2 hX2 hb2 hg2 hm
            go_wp2_with fail
            refine CA.out.mono ?_
            rintro e w3 ⟨rfl, hS3, hg3⟩
            have HG3 := hid (HG2.out.andThen hg3 (fun j hj => .inr hj))
            clear hg3 hS3
            go_wp2
            go_ret
            rw [HRR.out]
            exact ⟨rfl, HG3.out⟩
          · rw [if_neg hm] at hst
            have HRR := hid hst
            clear hst
            go_wp2_with fail
            rw [HW1.out]
            refine CC.out.mono ?_
            rintro e w2 ⟨rfl, hb2⟩
            have hX2 := HX.out.next hb2
            have hS2 := HS1.out.below hb2
            have hg2 := grown_under HG1.out hb2
            have hC2 := HC.out.grown hg2
            obtain ⟨z0, z1⟩ := hX2.cells
            have cA := dist_any KB AB MB M (codesL (l.take i)) X1 q.1 T1 q.2 (by rw [HCL.out]; omega) (by rw [Lib.size_eq]; show (lst X1).length ≤ maxLen; rw [HXL.out]; unfold maxLen; omega) w2 hC2.d hS2
            unfold AddOutK at cA
            rw [HXL.out, addK_ok hm (by rw [HCL.out]; omega)] at cA
            dsimp only at cA
            rw [← HADD.out] at cA
            have CA := hid cA
            have HG2 := hid hg2
            clear cA hC2 hS2 hX2 hb2 hg2 hm
            go_wp2_with fail
            refine CA.out.mono ?_
            rintro e w3 ⟨rfl, hS3, hg3⟩
            have HG3 := hid (HG2.out.andThen hg3 (fun j hj => .inr hj))
            have HS3 := hid hS3
            clear hg3 hS3
            go_wp2
            go_roundw
            case rel => exact ⟨i + 1, by go_num, by omega, hid HRR.out.symm, hid HS3.out, hid HG3.out⟩
            case measure => simp [RowKit.intOf]; omega
        · have hst := HST.out
          rw [if_pos hE0] at hst
          have HRR := hid hst
          have hE0' : (E != 0) = true := by simpa using hE0
          have hE0'' : (E == 0) = false := by simpa using hE0
          clear hst
          go_wp2_with fail
          rw [HW1.out]
          refine CC.out.mono ?_
          rintro e w2 ⟨rfl, hb2⟩
          have HG2 := hid (grown_under HG1.out hb2)
          clear hb2
          go_wp2
          go_ret
          rw [HRR.out]
          exact ⟨rfl, HG2.out⟩
      · have hltz : ¬ (i : Int) < (l.length : Int) := by omega
        have hn : Hid (R = 0) := hid (by rw [← hE.out, List.drop_of_length_le (by omega)]; rfl)
        go_wp2
        go_ret
        rw [hn.out]
        exact ⟨rfl, hK.out⟩

set_option maxHeartbeats 16000000 in
set_option maxRecDepth 100000 in
theorem lvalid_any (d s b m n : Int) (A : Option Addr) (l : List LectD) (c : Nat) (w : World) (h : LectsIn w (fun k => k < w.heap.size) A l) :
    Calls Tryz.prog 13 #[.slice A l.length c, .agg #[.int .i64 d, .int .i64 s, .int .i64 b, .int .i64 m], .int .i64 n] w (Says (.int .i64 (validL d s b m n l)) w) := by
  have cF := fun w => rframe_any d s b m n w
  unfold Says at cF ⊢
  have hG := Box4.new w d s b m 24
  have hb1 := (Below.refl w.heap.size w).alloc (Nat.le_refl _) (.cells #[.int .i64 d, .int .i64 s, .int .i64 b, .int .i64 m] 24)
  have hs1 : (w.alloc (.cells #[.int .i64 d, .int .i64 s, .int .i64 b, .int .i64 m] 24)).heap.size = w.heap.size + 1 := by simp
  obtain ⟨w1, hw1⟩ : ∃ w1, w.alloc (.cells #[.int .i64 d, .int .i64 s, .int .i64 b, .int .i64 m] 24) = w1 := ⟨_, rfl⟩
  rw [hw1] at hG hb1 hs1
  have hN := Box1.new w1 3 (.int .i64 n)
  have hb2 := (Below.refl w1.heap.size w1).alloc (Nat.le_refl _) (.cells #[.int .i64 n] 3)
  obtain ⟨w2, hw2⟩ : ∃ w2, w1.alloc (.cells #[.int .i64 n] 3) = w2 := ⟨_, rfl⟩
  rw [hw2] at hN hb2
  rw [hs1] at hN
  have hG2 := hG.next hb2 hG.lt
  have hb := hb1.trans (hb2.mono (by omega))
  have HG := hid hG2
  have HN := hid hN
  have HB := hid hb
  have HW1 := hid hw1
  have HW2 := hid hw2
  have HH := hid h
  clear hG hb1 hs1 hw1 hN hb2 hw2 hG2 hb h
  cases hf : frameB d s b m n with
  | false =>
    rw [hf] at cF
    have hR : validL d s b m n l = 1 := by unfold validL; rw [if_pos hf]
    rw [hR]
    clear hf hR
    go_enter Tryz.func13, Tryz.ntmps13
    go_wp2_with fail
    (try rw [HW1.out])
    (try rw [HW2.out])
    refine (cF _).mono ?_
    rintro e w3 ⟨rfl, hb3⟩
    have HB3 := hid (HB.out.trans (hb3.mono HB.out.size))
    clear hb3
    go_wp2
    go_ret
    exact ⟨rfl, HB3.out⟩
  | true =>
    rw [hf] at cF
    have hR : validL d s b m n l = if 32 < l.length then 2 else goL d s b m n [] l := by unfold validL; rw [if_neg (by simp [hf])]
    obtain ⟨R, hR'⟩ : ∃ R, validL d s b m n l = R := ⟨_, rfl⟩
    rw [hR']
    rw [hR'] at hR
    have HR := hid hR
    clear hf hR hR'
    go_enter Tryz.func13, Tryz.ntmps13
    go_wp2_with fail
    (try rw [HW1.out])
    (try rw [HW2.out])
    refine (cF _).mono ?_
    rintro e w3 ⟨rfl, hb3⟩
    have hB3 := HB.out.trans (hb3.mono HB.out.size)
    have hG3 := HG.out.next hb3 HG.out.lt
    have hN3 := HN.out.next hb3
    have HB3 := hid hB3
    have HG3 := hid hG3
    have HN3 := hid hN3
    clear hb3 hB3 hG3 hN3
    go_wp2_with fail
    refine (distinct_any w3).mono ?_
    rintro e w4 ⟨KB, AB, MB, M, rfl, hD, hM, hM4, k1, k2, k3, hb4⟩
    have hG4 := HG3.out.next hb4 HG3.out.lt
    have hN4 := HN3.out.next hb4
    have hgl := HG3.out.lt
    have hnl := HN3.out.lt
    have hc := chk_any d s b m n A l c w.heap.size (w.heap.size + 1) KB AB MB M w4 (((HH.out.below HB3.out).kept (fun k hk => hb4.block k (by omega))).mono (fun k hk => by omega)) hM ⟨hG4, hN4, hD, by omega, by omega, k1, k2, k3⟩
    rw [← HR.out] at hc
    have HC := hid hc
    have HB4 := hid (HB3.out.trans (hb4.mono HB3.out.size))
    have HML : Hid (w.heap.size ≤ M) := hid (by have := HB3.out.size; omega)
    have HM4 := hid hM.lt
    clear hc hD hM hM4 k1 k2 k3 hb4 hG4 hN4 hgl hnl
    go_wp2_with fail
    refine HC.out.mono ?_
    rintro e w5 ⟨rfl, hg5⟩
    have HB5 := hid (HB4.out.grown hg5 HB4.out.size (fun k e => by injection e with e; rw [← e]; exact HML.out))
    clear hg5
    go_wp2
    go_ret
    exact ⟨rfl, HB5.out⟩
end Go.Proofs.YtnpfmoalgphkcaaGreatDoor

set_option linter.unusedVariables false
namespace Go.Proofs.YtnpfmoalgphkcaaGreatDoor
open Go Go.Proofs Go.RowKit Go.Lib

theorem any_false {p : TimeD → Bool} {l : List TimeD} (h : ∀ j (hj : j < l.length), p l[j] = false) : l.any p = false := by
  rw [List.any_eq_false]
  intro x hx
  obtain ⟨j, hj, rfl⟩ := List.mem_iff_getElem.1 hx
  rw [h j hj]
  simp
theorem any_true {p : TimeD → Bool} {l : List TimeD} (j : Nat) (hj : j < l.length) (h : p l[j] = true) : l.any p = true := List.any_eq_true.2 ⟨_, List.getElem_mem hj, h⟩

end Go.Proofs.YtnpfmoalgphkcaaGreatDoor

set_option linter.unusedVariables false
namespace Go.Proofs.YtnpfmoalgphkcaaGreatDoor
open Go Go.Proofs Go.RowKit Go.Lib

set_option maxHeartbeats 16000000 in
set_option maxRecDepth 100000 in
theorem rlvalid_any (d s b m n : Int) (A : Option Addr) (l : List LectD) (c : Nat) (w : World) (h : LectsIn w (fun k => k < w.heap.size) A l) :
    Calls Tryz.prog 14 #[.slice A l.length c, .agg #[.int .i64 d, .int .i64 s, .int .i64 b, .int .i64 m], .int .i64 n] w (Says (.int .i64 (validL d s b m n l)) w) := by
  have cF := fun w => usable_any d s b m n w
  have cU := fun k y t l' w => rfits_any d s b m n k y t l' w
  unfold Says at cF cU ⊢
  obtain ⟨R, hR⟩ : ∃ R, validL d s b m n l = R := ⟨_, rfl⟩
  rw [hR]
  unfold validL at hR
  have hk := K1.first w d s b m 24
  have HK := hid hk
  have HH := hid h
  clear hk h
  cases hf : frameB d s b m n with
  | false =>
    rw [hf] at cF hR
    rw [if_pos rfl] at hR
    subst hR
    clear hf
    go_enter Tryz.func14, Tryz.ntmps14
    go_wp2_with fail
    refine (cF _).mono ?_
    rintro e w1 ⟨rfl, hb⟩
    have hk := HK.out.next hb
    clear hb HK
    go_wp2
    go_ret
    exact ⟨rfl, hk.b⟩
  | true =>
    rw [hf] at cF hR
    rw [if_neg (by simp)] at hR
    by_cases h16 : 32 < l.length
    · rw [if_pos h16] at hR
      subst hR
      have hz : (32 : Int) < (l.length : Int) := by omega
      clear hf
      go_enter Tryz.func14, Tryz.ntmps14
      go_wp2_with fail
      refine (cF _).mono ?_
      rintro e w1 ⟨rfl, hb⟩
      have hk := HK.out.next hb
      clear hb HK
      go_wp2
      go_ret
      exact ⟨rfl, hk.b⟩
    · rw [if_neg h16] at hR
      have hz : ¬ (32 : Int) < (l.length : Int) := by omega
      have HR : Hid (goL d s b m n (codesL (l.take 0)) (l.drop 0) = R) := hid hR
      clear hf hR
      go_enter Tryz.func14, Tryz.ntmps14
      go_wp2_with fail
      refine (cF _).mono ?_
      rintro e w1 ⟨rfl, hb⟩
      have hk := HK.out.next hb
      have HK1 := hid hk
      clear hb HK hk
      go_wp2
      go_loopw [7, 8] (fun iv _ wr => ∃ i : Nat, iv = .int .i64 (i : Int) ∧ i ≤ l.length ∧ Hid (goL d s b m n (codesL (l.take i)) (l.drop i) = R) ∧ Hid (K1 w d s b m wr)) (fun iv _ _ => l.length - (RowKit.intOf iv).toNat)
      case atStart => exact ⟨0, rfl, Nat.zero_le _, HR, hid HK1.out⟩
      case round =>
        obtain ⟨i, rfl, hi, hE, hK⟩ := hrel
        by_cases hlt : i < l.length
        · have hltz : (i : Int) < (l.length : Int) := by omega
          have dk : decide (l.length ≤ i) = false := decide_eq_false (by omega)
          have hst := goL_step d s b m n l i hlt
          rw [hE.out] at hst
          obtain ⟨fb, fo, ⟨A2, c2⟩, rfl, hfb, hri, y0, y1⟩ := (HH.out.below hK.out.b).at_ hlt
          have hci : (codesL l)[i]'(by simpa [codesL] using hlt) = l[i].1 := by simp [codesL]
          have hix := idxG_lt (codesL l) i (by simpa [codesL] using hlt)
          rw [hci, show (codesL l).take i = codesL (l.take i) by simp [codesL, List.map_take]] at hix
          obtain ⟨⟨code, ts⟩, hr⟩ : ∃ r, l[i] = r := ⟨_, rfl⟩
          rw [hr] at hst y0 y1 hri hix
          obtain ⟨ht, ht1, ht2⟩ := hri
          dsimp only at hst y0 y1 ht ht1 ht2 hix
          have cV1 := fun w => S3.refValid_any (ba code) w
          rw [show (ba code).data.toList = code from rfl] at cV1
          have cI : Hid (∀ W, Below w.heap.size w W → Calls Tryz.prog 45 #[.slice (some ⟨fb, fo, none⟩) l.length c, .string (ba code)] W fun e w' => e = .returned (.int .i64 (idxG (codesL l) code 0)) ∧ W = w') :=
            hid (fun W hb => rindex_any (some ⟨fb, fo, none⟩) l c (ba code) W ((HH.out.below hb).mono (fun k hk => Nat.lt_of_lt_of_le hk hb.size)) (by omega))
          have hT : ∀ W, Below w.heap.size w W → TimesIn W (fun b => b < w.heap.size) A2 ts := fun W hb => (ht.kept (fun k hk => (hb.block k hk).trans (hK.out.b.block k hk).symm))
          have hY : ∀ W, Below w.heap.size w W → W.cell? ⟨fb, fo + i * 2, none⟩ = some (.string (ba code)) ∧ W.cell? ⟨fb, fo + i * 2 + 1, none⟩ = some (.slice A2 ts.length c2) := fun W hb => by
            have e := (hb.block fb hfb).trans (hK.out.b.block fb hfb).symm
            exact ⟨(World.cell?_of_block (w := wr) e).trans y0, (World.cell?_of_block (w := wr) e).trans y1⟩
          obtain ⟨V1, hV1⟩ : ∃ V, S3.validC code = V := ⟨_, rfl⟩
          obtain ⟨E, hE2⟩ : ∃ E, lectM d s b m n (code, ts) = E := ⟨_, rfl⟩
          rw [hE2] at hst
          unfold lectM at hE2
          dsimp only at hE2
          rw [hV1] at cV1 hE2
          obtain ⟨X1, hX1⟩ : ∃ X, ba code = X := ⟨_, rfl⟩
          rw [hX1] at y0 cV1 cI hY
          have HIX := hid hix
          have HST := hid hst
          have HT := hid hT
          have HY := hid hY
          have H32 := hid h16
          clear hr hV1 hX1 hst ht ht1 hT hix hci hE hY h16
          cases V1 with
          | false =>
            have HRR : Hid (R = 10) := hid (by have h := HST.out; rw [← hE2] at h; simpa using h)
            clear hE2
            go_wp2_with fail
            refine (cV1 _).mono ?_
            rintro e w' ⟨rfl, rfl⟩
            go_wp2
            go_ret
            rw [HRR.out]
            exact ⟨rfl, hK.out.b⟩
          | true =>
          rw [if_neg (by simp)] at hE2
          by_cases z2 : 24 < ts.length
          · have z2' : (24 : Int) < (ts.length : Int) := by omega
            have z2d : decide ((24 : Int) < (ts.length : Int)) = true := decide_eq_true z2'
            rw [if_pos z2] at hE2
            have HRR : Hid (R = 2) := hid (by have h := HST.out; rw [← hE2] at h; simpa using h)
            clear hE2
            go_wp2_with fail
            refine (cV1 _).mono ?_
            rintro e w' ⟨rfl, rfl⟩
            go_wp2
            go_ret
            rw [HRR.out]
            exact ⟨rfl, hK.out.b⟩
          have z2' : ¬ (24 : Int) < (ts.length : Int) := by omega
          have z2d : decide ((24 : Int) < (ts.length : Int)) = false := decide_eq_false z2'
          rw [if_neg z2] at hE2
          have HE2 := hid hE2
          clear hE2
          go_wp2_with fail
          refine (cV1 _).mono ?_
          rintro e w' ⟨rfl, rfl⟩
          go_wp2
          go_loopw [8] (fun kv wq => ∃ k : Nat, kv = .int .i64 (k : Int) ∧ k ≤ ts.length ∧ Hid (∀ j (hj : j < ts.length), j < k → unfitB d s b m n ts[j] = false) ∧ Hid (K1 w d s b m wq)) (fun kv _ => ts.length - (RowKit.intOf kv).toNat)
          case atStart => exact ⟨0, rfl, Nat.zero_le _, hid (fun j _ h => absurd h (Nat.not_lt_zero _)), hK⟩
          case round =>
            clear y0 y1 hK
            obtain ⟨k, rfl, hk, hall, hK⟩ := hrel
            obtain ⟨y0, y1⟩ := HY.out _ hK.out.b
            by_cases hkl : k < ts.length
            · have hklz : (k : Int) < (ts.length : Int) := by omega
              have dk2 : decide (ts.length ≤ k) = false := decide_eq_false (by omega)
              obtain ⟨tb, tf, rfl, htb, t0, t1, t2, t3⟩ := (HT.out _ hK.out.b).at_ hkl
              have HKD := hid (hK.out.next (Below.refl _ _).drew)
              obtain ⟨_, _, hA2', _, t0', t1', t2', t3'⟩ := (HT.out _ HKD.out.b).at_ hkl
              injection hA2' with hA2'
              injection hA2' with e1 e2 _
              subst e1 e2
              obtain ⟨y0', y1'⟩ := HY.out _ HKD.out.b
              obtain ⟨g0, g1, g2, g3, _⟩ := id hK.out.x
              obtain ⟨g0', g1', g2', g3', _⟩ := id HKD.out.x
              have cU' := fun w => cU ts[k].1 ts[k].2.1 ts[k].2.2.1 ts[k].2.2.2 w
              have hub : unfitB d s b m n ts[k] = decide (fitsM d s b m n ts[k].1 ts[k].2.1 ts[k].2.2.1 ts[k].2.2.2 ≠ 0) := rfl
              obtain ⟨U, hU⟩ : ∃ U, fitsM d s b m n ts[k].1 ts[k].2.1 ts[k].2.2.1 ts[k].2.2.2 = U := ⟨_, rfl⟩
              rw [hU] at cU' hub
              have CU := hid cU'
              have HUB := hid hub
              obtain ⟨n0, hn0⟩ : ∃ n, ts[k].1 = n := ⟨_, rfl⟩
              obtain ⟨n1, hn1⟩ : ∃ n, ts[k].2.1 = n := ⟨_, rfl⟩
              obtain ⟨n2, hn2⟩ : ∃ n, ts[k].2.2.1 = n := ⟨_, rfl⟩
              obtain ⟨n3, hn3⟩ : ∃ n, ts[k].2.2.2 = n := ⟨_, rfl⟩
              rw [hn0] at t0 t0' CU
              rw [hn1] at t1 t1' CU
              rw [hn2] at t2 t2' CU
              rw [hn3] at t3 t3' CU
              clear hn0 hn1 hn2 hn3 hU cU' hub
              go_upto_region 15 with fail
              go_still_tail 10, (by kernel_rfl)
              change wpList _ _ _ _ _ wr.drew
              go_wp2_with fail
              refine (CU.out _).mono ?_
              rintro e w3 ⟨rfl, hb3⟩
              have HK3 := hid (HKD.out.next hb3)
              clear hb3 HKD CU t0 t1 t2 t3 t0' t1' t2' t3' y0 y1 y0' y1' g0 g1 g2 g3 g0' g1' g2' g3'
              by_cases hU0 : U = 0
              · have u1 : (U != 0) = false := by simpa using hU0
                have u2 : (U == 0) = true := by simpa using hU0
                have HA2 : Hid (∀ j (hj : j < ts.length), j < k + 1 → unfitB d s b m n ts[j] = false) := hid (fun j hj hjk => by
                  by_cases e : j = k
                  · subst e
                    rw [HUB.out]
                    exact decide_eq_false (fun h => h hU0)
                  · exact hall.out j hj (by omega))
                clear hU0
                go_wp2
                go_roundw
                case rel => exact ⟨k + 1, by go_num, by omega, HA2, HK3⟩
                case measure => simp [RowKit.intOf]; omega
              · have u1 : (U != 0) = true := by simpa using hU0
                have u2 : (U == 0) = false := by simpa using hU0
                have hE3 := HE2.out
                rw [if_pos (any_true k hkl (by rw [HUB.out]; exact decide_eq_true hU0))] at hE3
                have HRR : Hid (R = 14) := hid (by have h := HST.out; rw [← hE3] at h; simpa using h)
                clear hU0 hE3
                go_wp2
                go_ret
                rw [HRR.out]
                exact ⟨rfl, HK3.out.b⟩
            · have hklz : ¬ (k : Int) < (ts.length : Int) := by omega
              have hE3 := HE2.out
              rw [if_neg (by rw [any_false (fun j hj => hall.out j hj (by omega))]; simp)] at hE3
              have HST2 : Hid (R = if code ∈ codesL (l.take i) then 11 else goL d s b m n (codesL (l.take (i + 1))) (l.drop (i + 1))) := hid (by have h := HST.out; rw [← hE3] at h; simpa using h)
              clear hE3
              have cI' := cI.out _ hK.out.b
              obtain ⟨J, hJ⟩ : ∃ J, idxG (codesL l) code 0 = J := ⟨_, rfl⟩
              have hix := HIX.out
              rw [hJ] at cI' hix
              have CI := hid cI'
              clear cI' hJ
              by_cases hm : code ∈ codesL (l.take i)
              · have hJi : J < (i : Int) := hix.2 hm
                have hJd : decide (J < (i : Int)) = true := decide_eq_true hJi
                have HRR : Hid (R = 11) := hid (by have h := HST2.out; rw [if_pos hm] at h; exact h)
                clear hix hm
                go_wp2_with fail
                refine CI.out.mono ?_
                rintro e w' ⟨rfl, rfl⟩
                go_wp2
                go_ret
                rw [HRR.out]
                exact ⟨rfl, hK.out.b⟩
              · have hJi : ¬ J < (i : Int) := fun h => hm (hix.1 h)
                have hJd : decide (J < (i : Int)) = false := decide_eq_false hJi
                have HRR : Hid (goL d s b m n (codesL (l.take (i + 1))) (l.drop (i + 1)) = R) := hid (by have h := HST2.out; rw [if_neg hm] at h; exact h.symm)
                clear hix hm
                go_wp2_with fail
                refine CI.out.mono ?_
                rintro e w' ⟨rfl, rfl⟩
                go_wp2
                go_roundw
                case rel => exact ⟨i + 1, by go_num, by omega, HRR, hK⟩
                case measure => simp [RowKit.intOf]; omega
        · have hltz : ¬ (i : Int) < (l.length : Int) := by omega
          have hn : Hid (R = 0) := hid (by rw [← hE.out, List.drop_of_length_le (by omega)]; rfl)
          go_wp2
          go_ret
          rw [hn.out]
          exact ⟨rfl, hK.out.b⟩
end Go.Proofs.YtnpfmoalgphkcaaGreatDoor

set_option linter.unusedVariables false
namespace Go.Proofs.YtnpfmoalgphkcaaGreatDoor.S3
open Go Go.Proofs Go.RowKit Go.Lib

theorem take_eq_succ (la lb : List Str) (i : Nat) (hi : i < la.length) (hl : la.length = lb.length) (h : la.take i = lb.take i) : (la.take (i + 1) = lb.take (i + 1)) ↔ la[i] = lb[i]'(by omega) := by
  rw [List.take_add_one, List.take_add_one, List.getElem?_eq_getElem hi, List.getElem?_eq_getElem (show i < lb.length by omega), h]
  constructor
  · intro e
    simpa using List.append_cancel_left e
  · intro e
    rw [e]

set_option maxHeartbeats 2000000 in
set_option maxRecDepth 100000 in
theorem sameStrings_any (A A' : Option Addr) (la lb : List Str) (ca cb : Nat) (P P' : Nat → Prop) (w : World) (ha : StrsIn w P A la) (hb : StrsIn w P' A' lb) (h63 : la.length ≤ 9223372036854775807) :
    Calls Tryz.prog 46 #[.slice A la.length ca, .slice A' lb.length cb] w fun e w' => e = .returned (.bool (decide (la = lb))) ∧ ∃ q, w' = w.drewN q := by
  by_cases hl : la.length = lb.length
  · have hlz : ((la.length : Int) != (lb.length : Int)) = false := by simp [hl]
    obtain ⟨ANS, hANS⟩ : ∃ ANS, decide (la = lb) = ANS := ⟨_, rfl⟩
    rw [hANS]
    have HA := hid ha
    have HB := hid hb
    have HL := hid hl
    have HANS := hid hANS
    clear ha hb hl hANS
    go_enter Tryz.func46, Tryz.ntmps46
    go_wp2
    go_loopw [5] (fun iv wr => ∃ i : Nat, iv = .int .i64 (i : Int) ∧ i ≤ la.length ∧ Hid (la.take i = lb.take i) ∧ ∃ q, wr = w.drewN q) (fun iv _ => la.length - (RowKit.intOf iv).toNat)
    case atStart => exact ⟨0, rfl, Nat.zero_le _, hid rfl, 0, rfl⟩
    case round =>
      obtain ⟨i, rfl, hi, ht, q, rfl⟩ := hrel
      by_cases hlt : i < la.length
      · have hltz : (i : Int) < (la.length : Int) := by omega
        have hlt' : i < lb.length := by rw [← HL.out]; exact hlt
        have hltz' : (i : Int) < (lb.length : Int) := by omega
        obtain ⟨b1, o1, rfl, _, hc1⟩ := HA.out.at_ hlt
        obtain ⟨b2, o2, rfl, _, hc2⟩ := HB.out.at_ hlt'
        have hiff := take_eq_succ la lb i hlt HL.out ht.out
        obtain ⟨x, hx⟩ : ∃ x, la[i] = x := ⟨_, rfl⟩
        obtain ⟨y, hy⟩ : ∃ y, lb[i] = y := ⟨_, rfl⟩
        rw [hx] at hc1 hiff
        rw [hy] at hc2 hiff
        obtain ⟨X, hX⟩ : ∃ X : ByteArray, (⟨x.toArray⟩ : ByteArray) = X := ⟨_, rfl⟩
        obtain ⟨Y, hY⟩ : ∃ Y : ByteArray, (⟨y.toArray⟩ : ByteArray) = Y := ⟨_, rfl⟩
        have hXl : X.toList = x := by rw [Lib.toList_data, ← hX]
        have hYl : Y.toList = y := by rw [Lib.toList_data, ← hY]
        have e1 : strV x = .string X := by rw [← hX]; rfl
        have e2 : strV y = .string Y := by rw [← hY]; rfl
        rw [e1] at hc1
        rw [e2] at hc2
        have HIFF := hid hiff
        have HX := hid hx
        have HY := hid hy
        by_cases hxy : x = y
        · have hbe : (X.toList != Y.toList) = false := by rw [hXl, hYl, hxy]; simp
          have hbe2 : (X.toList == Y.toList) = true := by rw [hXl, hYl, hxy]; simp
          clear hiff hx hy hX hY hXl hYl e1 e2
          go_wp2
          go_quiet (fail)
          go_wp2
          go_roundw
          case rel => exact ⟨i + 1, by go_num, by omega, hid (HIFF.out.2 hxy), q + nq, rfl⟩
          case measure => simp [RowKit.intOf]; omega
        · have hbe : (X.toList != Y.toList) = true := by rw [hXl, hYl]; simpa using hxy
          have hbe2 : (X.toList == Y.toList) = false := by rw [hXl, hYl]; simpa using hxy
          have hf : ANS = false := by
            rw [← HANS.out]
            apply decide_eq_false
            intro e
            subst e
            exact hxy (by rw [← HX.out, ← HY.out])
          subst hf
          clear hiff hx hy hX hY hXl hYl e1 e2
          go_wp2
          go_quiet (fail)
          go_wp2
          go_ret
          exact ⟨rfl, q + nq, by rw [World.drewN_drewN]⟩
      · have hltz : ¬ (i : Int) < (la.length : Int) := by omega
        have hf : ANS = true := by
          rw [← HANS.out]
          apply decide_eq_true
          have h := ht.out
          rwa [List.take_of_length_le (by omega), List.take_of_length_le (by have := HL.out; omega)] at h
        subst hf
        go_wp2
        go_ret
        exact ⟨rfl, q, rfl⟩
  · have hlz : ((la.length : Int) != (lb.length : Int)) = true := by simp; omega
    have hf : decide (la = lb) = false := decide_eq_false (fun e => hl (by rw [e]))
    rw [hf]
    clear ha hb
    go_enter Tryz.func46, Tryz.ntmps46
    go_wp2
    go_ret
    exact ⟨rfl, 0, rfl⟩
end Go.Proofs.YtnpfmoalgphkcaaGreatDoor.S3

