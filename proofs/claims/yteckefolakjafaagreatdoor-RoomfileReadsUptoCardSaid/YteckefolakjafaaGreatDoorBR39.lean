/-
  The first error of rooms: isFrame and Valid of roomfile. Conditions: the rooms lie in memory.
  The program's Read of roomfile. Conditions: the variables hold what their text lays; the records lie in memory, their fields below 2^32 bytes.
-/
import Derived.Test.YteckefolakjafaaGreatDoorBR38
import Derived.Test.YteckefolakjafaaGreatDoorBR23
import Derived.Test.YteckefolakjafaaGreatDoorBR37
set_option linter.unusedVariables false
namespace Go.Proofs.YteckefolakjafaaGreatDoor
open Go Go.Proofs Go.RowKit Go.Lib

set_option maxHeartbeats 4000000 in
set_option maxRecDepth 100000 in
theorem rframe_any (d s b m n : Int) (w : World) : Calls Tryz.prog 21 #[.agg #[.int .i64 d, .int .i64 s, .int .i64 b, .int .i64 m], .int .i64 n] w (Says (.bool (frameB d s b m n)) w) := by
  have cV := fun w => gvalid_any d s b m w
  unfold Says at cV ⊢
  have hF : frameB d s b m n = (gridB d s b m && decide (1 ≤ n) && decide (n ≤ 20)) := by
    unfold frameB
    rw [Bool.eq_iff_iff]
    simp
    constructor
    · rintro ⟨h1, h2, h3⟩; exact ⟨⟨h1, h2⟩, h3⟩
    · rintro ⟨⟨h1, h2⟩, h3⟩; exact ⟨h1, h2, h3⟩
  rw [hF]
  have hk := K1.first w d s b m 24
  have HK := hid hk
  clear hk hF
  cases hg : gridB d s b m with
  | false =>
    rw [hg, if_neg (by simp)] at cV
    clear hg
    go_enter Tryz.func21, Tryz.ntmps21
    go_wp2_with fail
    refine (cV _).mono ?_
    rintro e w1 ⟨rfl, hb⟩
    have hk := HK.out.next hb
    clear hb HK
    go_wp2
    go_ret
    exact ⟨rfl, hk.b⟩
  | true =>
    rw [hg, if_pos rfl] at cV
    clear hg
    by_cases h1 : 1 ≤ n
    · have h1d : decide (1 ≤ n) = true := decide_eq_true h1
      by_cases h2 : n ≤ 20
      · have h2d : decide (n ≤ 20) = true := decide_eq_true h2
        rw [h1d, h2d]
        go_enter Tryz.func21, Tryz.ntmps21
        go_wp2_with fail
        refine (cV _).mono ?_
        rintro e w1 ⟨rfl, hb⟩
        have hk := HK.out.next hb
        clear hb HK
        go_wp2
        go_ret
        exact ⟨rfl, hk.b⟩
      · have h2d : decide (n ≤ 20) = false := decide_eq_false h2
        rw [h1d, h2d]
        go_enter Tryz.func21, Tryz.ntmps21
        go_wp2_with fail
        refine (cV _).mono ?_
        rintro e w1 ⟨rfl, hb⟩
        have hk := HK.out.next hb
        clear hb HK
        go_wp2
        go_ret
        exact ⟨rfl, hk.b⟩
    · have h1d : decide (1 ≤ n) = false := decide_eq_false h1
      rw [h1d]
      go_enter Tryz.func21, Tryz.ntmps21
      go_wp2_with fail
      refine (cV _).mono ?_
      rintro e w1 ⟨rfl, hb⟩
      have hk := HK.out.next hb
      clear hb HK
      go_wp2
      go_ret
      exact ⟨by simp, hk.b⟩

theorem validC_len {s : Str} (h : S3.validC s = true) : s.length ≤ 16 := by
  unfold S3.validC at h
  cases s with
  | nil => simp
  | cons a r => simp at h; simp; omega
theorem roomM_code {d s b m n : Int} {r : RoomD} (h : roomM d s b m n r = 0) : r.1.length ≤ 16 := by
  refine validC_len ?_
  cases hv : S3.validC r.1 with
  | true => rfl
  | false =>
    unfold roomM at h
    rw [if_pos (.inl hv)] at h
    simp at h

set_option maxHeartbeats 16000000 in
set_option maxRecDepth 100000 in
theorem rvalid7_any (d s b m n : Int) (A : Option Addr) (l : List RoomD) (c : Nat) (w : World) (h : RoomsIn w (fun k => k < w.heap.size) A l) :
    Calls Tryz.prog 8 #[.slice A l.length c, .agg #[.int .i64 d, .int .i64 s, .int .i64 b, .int .i64 m], .int .i64 n] w (Says (.int .i64 (validR d s b m n l)) w) := by
  have cF := fun w => rframe_any d s b m n w
  have hmm := @run_makeMap Tryz.prog
  unfold Says at cF ⊢
  obtain ⟨R, hR⟩ : ∃ R, validR d s b m n l = R := ⟨_, rfl⟩
  rw [hR]
  unfold validR at hR
  have hk := K1.first w d s b m 24
  have HK := hid hk
  have HH := hid h
  clear hk h
  cases hf : frameB d s b m n with
  | false =>
    rw [hf] at cF hR
    rw [if_pos rfl] at hR
    subst hR
    clear hf
    go_enter Tryz.func8, Tryz.ntmps8
    go_wp2_with fail
    refine (cF _).mono ?_
    rintro e w1 ⟨rfl, hb⟩
    have hk := HK.out.next hb
    clear hb HK
    go_wp2
    go_ret
    exact ⟨rfl, hk.b⟩
  | true =>
    rw [hf] at cF hR
    rw [if_neg (by simp)] at hR
    by_cases h16 : 16 < l.length
    · rw [if_pos h16] at hR
      subst hR
      have hz : (16 : Int) < (l.length : Int) := by omega
      clear hf
      go_enter Tryz.func8, Tryz.ntmps8
      go_wp2_with fail
      refine (cF _).mono ?_
      rintro e w1 ⟨rfl, hb⟩
      have hk := HK.out.next hb
      clear hb HK
      go_wp2
      go_ret
      exact ⟨rfl, hk.b⟩
    · rw [if_neg h16] at hR
      have hz : ¬ (16 : Int) < (l.length : Int) := by omega
      have HR : Hid (goV d s b m n (codesR (l.take 0)) (l.drop 0) = R) := hid hR
      clear hf hR
      go_enter Tryz.func8, Tryz.ntmps8
      go_wp2_with fail
      refine (cF _).mono ?_
      rintro e w1 ⟨rfl, hb⟩
      have hk := HK.out.next hb
      have hM : KSet (w1.alloc (.map #[] 0)) w1.heap.size [] := KSet.made w1
      have hk2 := hk.next ((Below.refl _ w1).alloc (Nat.le_refl _) (.map #[] 0))
      have hMl : w.heap.size ≤ w1.heap.size := hk.b.size
      have HM := hid hM
      have HK2 := hid hk2
      have hGM : w.heap.size < w1.heap.size := hk.x.lt
      clear hb HK hM hk2 hk
      go_wp2
      generalize w1.heap.size = M at HM hMl hGM ⊢
      generalize World.alloc _ _ = wz at HM HK2 ⊢
      go_loopw [9, 10, 11, 24] (fun _ _ _ iv wr => ∃ i : Nat, iv = .int .i64 (i : Int) ∧ i ≤ l.length ∧ Hid (goV d s b m n (codesR (l.take i)) (l.drop i) = R) ∧ Hid (KSet wr M (codesR (l.take i))) ∧ Hid (K1 w d s b m wr)) (fun _ _ _ iv _ => l.length - (RowKit.intOf iv).toNat)
      case atStart => exact ⟨0, rfl, Nat.zero_le _, HR, hid HM.out, hid HK2.out⟩
      case round =>
        obtain ⟨i, rfl, hi, hE, hS, hK⟩ := hrel
        by_cases hlt : i < l.length
        · have hltz : (i : Int) < (l.length : Int) := by omega
          have hst := goV_step d s b m n l i hlt
          rw [hE.out] at hst
          have hcl : (codesR (l.take i)).length = i := by simp [codesR]; omega
          obtain ⟨fb, fo, q, rfl, hfb, hri, ⟨y0, y1, y2, y3, y4⟩⟩ := (HH.out.below hK.out.b).at_ hlt
          have hadd : codesR (l.take (i + 1)) = codesR (l.take i) ++ [l[i].1] := by rw [List.take_succ_eq_append_getElem hlt]; unfold codesR; rw [List.map_append]; rfl
          have cC : ∀ W, Below wr.heap.size wr W → Calls Tryz.prog 22 #[roomV l[i] q, .agg #[.int .i64 d, .int .i64 s, .int .i64 b, .int .i64 m], .int .i64 n] W (Says (.int .i64 (roomM d s b m n l[i])) W) :=
            fun W hb => rcheck_any d s b m n l[i] q W ((hri.below (hb.mono hK.out.b.size)).mono (fun k hk => Nat.lt_of_lt_of_le hk (Nat.le_trans hK.out.b.size hb.size)))
          have hcode : roomM d s b m n l[i] = 0 → l[i].1.length ≤ 16 := roomM_code
          obtain ⟨⟨code, bld, seats, fs, ts⟩, hr⟩ : ∃ r, l[i] = r := ⟨_, rfl⟩
          rw [hr] at hst y0 y1 y2 y3 y4 cC hadd hcode
          dsimp only at hst y0 y1 y2 y3 y4 hadd hcode
          unfold roomV Says at cC
          dsimp only at cC
          obtain ⟨E, hE2⟩ : ∃ E, roomM d s b m n (code, bld, seats, fs, ts) = E := ⟨_, rfl⟩
          rw [hE2] at cC hst hcode
          obtain ⟨X1, hX1⟩ : ∃ X, ba code = X := ⟨_, rfl⟩
          obtain ⟨X2, hX2⟩ : ∃ X, ba bld = X := ⟨_, rfl⟩
          obtain ⟨F1, hF1⟩ : ∃ F, fs.length = F := ⟨_, rfl⟩
          obtain ⟨T1, hT1⟩ : ∃ F, ts.length = F := ⟨_, rfl⟩
          rw [hX1] at y0 cC
          rw [hX2] at y1 cC
          rw [hF1] at y3 cC
          rw [hT1] at y4 cC
          have hX1l : lst X1 = code := by rw [← hX1]; rfl
          have HXL := hid hX1l
          have HST := hid hst
          have HADD := hid hadd
          have HCODE := hid hcode
          have HCL := hid hcl
          have hb1 := (Below.refl wr.heap.size wr).alloc (Nat.le_refl _) (.cells #[.string X1, .string X2, .int .i64 seats, .slice q.a1 F1 q.c1, .slice q.a2 T1 q.c2] 46)
          have HN1 := hid (Box5.new wr (.string X1) (.string X2) (.int .i64 seats) (.slice q.a1 F1 q.c1) (.slice q.a2 T1 q.c2))
          have hK1 := hK.out.next hb1
          have hS1 := hS.out.below hb1
          have hs1 : (wr.alloc (.cells #[.string X1, .string X2, .int .i64 seats, .slice q.a1 F1 q.c1, .slice q.a2 T1 q.c2] 46)).heap.size = wr.heap.size + 1 := by simp
          obtain ⟨⟨g0, g1, g2, g3, _⟩, _⟩ := id hK1
          have CC := hid (cC _ hb1)
          have HK1 := hid hK1
          have HS1 := hid hS1
          have HB1 := hid hb1
          have HZ1 := hid hs1
          clear hr hE2 hX1 hX2 hF1 hT1 hX1l hst hadd hcode hcl hb1 hK1 hS1 hs1 cC hri hfb hE hK hS
          by_cases hE0 : E = 0
          · subst hE0
            have hst := HST.out
            rw [if_neg (by simp)] at hst
            have hcl16 := HCODE.out rfl
            by_cases hm : code ∈ codesR (l.take i)
            · rw [if_pos hm] at hst
              have HRR := hid hst
              clear hst
              go_wp2_with fail
              refine CC.out.mono ?_
              rintro e w2 ⟨rfl, hb2⟩
              generalize wr.alloc (.cells #[.string X1, .string X2, .int .i64 seats, .slice q.a1 F1 q.c1, .slice q.a2 T1 q.c2] 46) = w1 at HN1 HK1 HS1 HB1 HZ1 hb2 ⊢
              have hN2 := HN1.out.below hb2 (by rw [HZ1.out]; omega)
              have hS2 := HS1.out.below hb2
              have hK2 := HK1.out.next hb2
              obtain ⟨z0, z1, z2, z3, z4⟩ := hN2.cells
              have cA := add_any M (codesR (l.take i)) X1 X2 seats q.a1 F1 q.c1 q.a2 T1 q.c2 (by rw [HCL.out]; omega) (by rw [Lib.size_eq]; show (lst X1).length ≤ maxLen; rw [HXL.out]; unfold maxLen; omega) w2 hS2
              unfold AddOut at cA
              rw [HXL.out, show addM (codesR (l.take i)) code = (codesR (l.take i), 11) from if_pos hm] at cA
              dsimp only at cA
              have CA := hid cA
              have HK2 := hid hK2
              clear cA hK2 hS2 hN2 hb2 g0 g1 g2 g3 hm
              go_wp2_with fail
              refine CA.out.mono ?_
              rintro e w3 ⟨rfl, hS3, hg3⟩
              have HB3 := hid (HK2.out.b.grown hg3 HK2.out.b.size (fun k e => by injection e; omega))
              clear hg3
              go_wp2
              go_ret
              rw [HRR.out]
              exact ⟨rfl, HB3.out⟩
            · rw [if_neg hm] at hst
              have HRR := hid hst
              clear hst
              go_wp2_with fail
              refine CC.out.mono ?_
              rintro e w2 ⟨rfl, hb2⟩
              generalize wr.alloc (.cells #[.string X1, .string X2, .int .i64 seats, .slice q.a1 F1 q.c1, .slice q.a2 T1 q.c2] 46) = w1 at HN1 HK1 HS1 HB1 HZ1 hb2 ⊢
              have hN2 := HN1.out.below hb2 (by rw [HZ1.out]; omega)
              have hS2 := HS1.out.below hb2
              have hK2 := HK1.out.next hb2
              obtain ⟨z0, z1, z2, z3, z4⟩ := hN2.cells
              have cA := add_any M (codesR (l.take i)) X1 X2 seats q.a1 F1 q.c1 q.a2 T1 q.c2 (by rw [HCL.out]; omega) (by rw [Lib.size_eq]; show (lst X1).length ≤ maxLen; rw [HXL.out]; unfold maxLen; omega) w2 hS2
              unfold AddOut at cA
              rw [HXL.out, show addM (codesR (l.take i)) code = (codesR (l.take i) ++ [code], 0) from by unfold addM; rw [if_neg hm, if_neg (by rw [HCL.out]; omega)]] at cA
              dsimp only at cA
              rw [← HADD.out] at cA
              have CA := hid cA
              have HK2 := hid hK2
              clear cA hK2 hS2 hN2 hb2 g0 g1 g2 g3 hm
              go_wp2_with fail
              refine CA.out.mono ?_
              rintro e w3 ⟨rfl, hS3, hg3⟩
              have HB3 := hid (HK2.out.b.grown hg3 HK2.out.b.size (fun k e => by injection e; omega))
              have hx3 : Box4 w3 w.heap.size d s b m := by
                have kc : ∀ o : Nat, w3.cell? ⟨w.heap.size, o, none⟩ = w2.cell? ⟨w.heap.size, o, none⟩ := fun o => World.cell?_of_block (w := w2) (hg3.block _ HK2.out.x.lt (fun e => by injection e with e; have e2 : w.heap.size = M := e; omega))
                have hx := HK2.out.x
                exact ⟨(kc 0).trans hx.c0, (kc 1).trans hx.c1, (kc 2).trans hx.c2, (kc 3).trans hx.c3, Nat.lt_of_lt_of_le hx.lt hg3.size⟩
              have HK3 : Hid (K1 w d s b m w3) := hid ⟨hx3, HB3.out⟩
              have HS3 := hid hS3
              clear hg3 hx3 hS3
              go_wp2
              go_roundw
              case rel => exact ⟨i + 1, by go_num, by omega, hid HRR.out.symm, hid HS3.out, hid HK3.out⟩
              case measure => simp [RowKit.intOf]; omega
          · have hst := HST.out
            rw [if_pos hE0] at hst
            have HRR := hid hst
            have hE0' : (E != 0) = true := by simpa using hE0
            have hE0'' : (E == 0) = false := by simpa using hE0
            clear hst
            go_wp2_with fail
            refine CC.out.mono ?_
            rintro e w2 ⟨rfl, hb2⟩
            have HB2 := hid (HK1.out.next hb2).b
            clear hb2
            go_wp2
            go_ret
            rw [HRR.out]
            exact ⟨rfl, HB2.out⟩
        · have hltz : ¬ (i : Int) < (l.length : Int) := by omega
          have hn : Hid (R = 0) := hid (by rw [← hE.out, List.drop_of_length_le (by omega)]; rfl)
          go_wp2
          go_ret
          rw [hn.out]
          exact ⟨rfl, hK.out.b⟩
end Go.Proofs.YteckefolakjafaaGreatDoor

set_option linter.unusedVariables false
namespace Go.Proofs.YteckefolakjafaaGreatDoor
open Go Go.Proofs Go.RowKit Go.Lib

/-- What reading rooms leaves behind. -/
def ReadOut (o : List RoomD × List ProbD) (w : World) (e : Ending) (w' : World) : Prop :=
  ∃ v1 v2, e = .returned (.tuple #[v1, v2]) ∧ RoomRow w' w.heap.size (fun k => w.heap.size ≤ k ∧ k < w'.heap.size) v1 o.1 ∧ ProbsRow w' w.heap.size v2 o.2 ∧ Below w.heap.size w w'
/-- The boxes of the grid and the number. -/
structure KG (w0 : World) (d s b m n : Int) (w : World) : Prop where
  g : Box4 w w0.heap.size d s b m
  n : w.cell? ⟨w0.heap.size + 1, 0, none⟩ = some (.int .i64 n)
  z : w0.heap.size + 1 < w.heap.size
  b : Below w0.heap.size w0 w
theorem KG.next {w0 w w' : World} {d s b m n : Int} {C : Nat} (h : KG w0 d s b m n w) (k : Below C w w') (hC : w0.heap.size + 1 < C) : KG w0 d s b m n w' :=
  ⟨h.g.next k (by omega), (k.cell (p := ⟨w0.heap.size + 1, 0, none⟩) hC).trans h.n, Nat.lt_of_lt_of_le h.z k.size, h.b.trans (k.mono (by omega))⟩
theorem KG.first (w : World) (d s b m n : Int) (T : TypeId) (o : Obj) (ho : o = .cells #[.int .i64 n] 3) : KG w d s b m n ((w.alloc (.cells #[.int .i64 d, .int .i64 s, .int .i64 b, .int .i64 m] T)).alloc o) := by
  subst ho
  have h1 := Box4.new w d s b m T
  have hb1 := (Below.refl w.heap.size w).alloc (Nat.le_refl _) (.cells #[.int .i64 d, .int .i64 s, .int .i64 b, .int .i64 m] T)
  have hs : (w.alloc (.cells #[.int .i64 d, .int .i64 s, .int .i64 b, .int .i64 m] T)).heap.size = w.heap.size + 1 := by simp
  generalize w.alloc (.cells #[.int .i64 d, .int .i64 s, .int .i64 b, .int .i64 m] T) = w1 at h1 hb1 hs ⊢
  have hb3 := (Below.refl w1.heap.size w1).alloc (Nat.le_refl _) (.cells #[.int .i64 n] 3)
  have e3 := heap_alloc_new w1 (.cells #[.int .i64 n] 3)
  rw [hs] at e3
  refine ⟨h1.next hb3 (by omega), by rw [Lib.cell_of_heap e3]; rfl, by simp [hs], hb1.trans (hb3.mono (by omega))⟩
theorem TimeRow.low' {w : World} {e z n B B' : Nat} {v : Value} {xs : List Value} (h : w.ownsRow B e z v n xs) (hB : B' ≤ B) : w.ownsRow B' e z v n xs := by
  obtain ⟨h1, h2⟩ := h
  refine ⟨h1, ?_⟩
  rcases h2 with h2 | ⟨g, cap, cur, hv, hg, r⟩
  · exact .inl h2
  · exact .inr ⟨g, cap, cur, hv, Nat.le_trans hB hg, r⟩
theorem prob_new (w : World) (e : Int) : ProbsRow (w.alloc (.cells #[.int .i64 0, .int .i64 0, .int .i64 0, .int .i64 e] 66)) w.heap.size (.slice (some ⟨w.heap.size, 0, none⟩) 1 1) [(0, 0, e)] := by
  exact ⟨rfl, .inr ⟨w.heap.size, 1, _, rfl, Nat.le_refl _, heap_alloc_new w _, Nat.le_refl 1, by unfold maxLen; omega, rfl, rfl⟩⟩
set_option maxHeartbeats 16000000 in
set_option maxRecDepth 100000 in
theorem read7_any (d s b m n : Int) (A : Option Addr) (l : List RecD) (c : Nat) (w : World) (h : RecsIn w (fun k => k < w.heap.size) A l) (hl : l.length ≤ 1073741824)
    (hsz : ∀ x ∈ l, ∀ f ∈ x.2, f.1.length < 4294967281) (hE : Env7 w) :
    Calls Tryz.prog 11 #[.slice A l.length c, .agg #[.int .i64 d, .int .i64 s, .int .i64 b, .int .i64 m], .int .i64 n] w (ReadOut (readM d s b m n l) w) := by
  have hmm := @run_makeMap Tryz.prog
  unfold ReadOut readM
  have hk := KG.first w d s b m n 24 _ rfl
  obtain ⟨g0, g1, g2, g3, _⟩ := hk.g
  have gn := hk.n
  have cF := fun w => rframe_any d s b m n w
  unfold Says at cF
  have HK := hid hk
  have HH := hid h
  have HE := hid hE
  have HSZ := hid hsz
  clear hk h hE hsz
  cases hf : frameB d s b m n with
  | false =>
    simp only [hf] at cF ⊢
    have CF := hid cF
    clear cF hf
    go_enter Tryz.func11, Tryz.ntmps11
    go_wp2_with fail
    refine (CF.out _).mono ?_
    rintro e w1 ⟨rfl, hb⟩
    have HB := hid hb
    clear hb
    go_wp2
    go_ret2
    have hz := HB.out.size
    simp at hz
    refine ⟨_, _, rfl, ⟨[], rfl, World.ownsRow_nil _ _ _ _, fun p hp => by simp at hp⟩, TimeRow.low' (prob_new w1 1) (by omega), ?_⟩
    exact (HK.out.b.trans (HB.out.mono (by simp; omega))).trans ((Below.refl _ w1).alloc (by omega) _)
  | true =>
    simp only [hf, if_true] at cF ⊢
    have CF := hid cF
    clear cF hf
    go_enter Tryz.func11, Tryz.ntmps11
    go_wp2_with fail
    refine (CF.out _).mono ?_
    rintro e w1 ⟨rfl, hb⟩
    have hk1 := HK.out.next hb (by simp)
    have HK1 := hid hk1
    have hz1 := HK1.out.z
    have hM : KSet (w1.alloc (.map #[] 0)) w1.heap.size [] := KSet.made w1
    have hbm : Below w1.heap.size w1 (w1.alloc (.map #[] 0)) := (Below.refl _ w1).alloc (Nat.le_refl _) _
    have hs2 : (w1.alloc (.map #[] 0)).heap.size = w1.heap.size + 1 := by simp
    have hrec : RecsIn (w1.alloc (.map #[] 0)) (fun k => k < w1.heap.size) A l := ((HH.out.below (HK1.out.b.trans (hbm.mono (by omega)))).mono (fun k hk => Nat.lt_trans (Nat.lt_of_lt_of_le hk (Nat.le_succ _)) hz1))
    have cE := entries_any d s b m n A l c w1.heap.size w.heap.size (w.heap.size + 1) (w1.alloc (.map #[] 0)) (by rw [hs2]; omega) hrec hl HSZ.out
      (fun W hW => by
        have hk := (HK1.out.next hbm hz1).next hW hz1
        exact ⟨HE.out.below hk.b (Nat.le_refl _), hk.g, hk.n⟩) hM
    unfold EntsOut at cE
    have CE := hid cE
    clear hb hk1 cE hrec hM hs2 hbm
    go_wp2_with fail
    refine CE.out.mono ?_
    rintro e w3 ⟨v1, v2, rfl, hi⟩
    have HI := hid hi
    clear hi
    go_wp2
    go_ret2
    obtain ⟨⟨Lr, hL, ho, hr⟩, hp, _, hb⟩ := HI.out
    have hs2 : (w1.alloc (.map #[] 0)).heap.size = w1.heap.size + 1 := by simp
    have hn : (recsM d s b m n l).1.length = Lr.length := by rw [← hL, List.length_map]
    refine ⟨v1, v2, rfl, ⟨Lr, hL, ?_, fun p hp' => (hr p hp').mono (fun k hk => ⟨by omega, hk.2.1⟩)⟩, TimeRow.low' hp (by omega), ?_⟩
    · rw [hn]
      exact TimeRow.low' ho (by omega)
    · exact HK1.out.b.trans (((Below.refl w1.heap.size w1).alloc (Nat.le_refl _) (.map #[] 0)).trans hb |>.mono (by omega))
end Go.Proofs.YteckefolakjafaaGreatDoor

