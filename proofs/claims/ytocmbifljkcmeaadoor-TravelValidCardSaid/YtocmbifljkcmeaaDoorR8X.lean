/-
  The records of ways: Write of travel, Write of the specification. Conditions: the table lies in memory.
-/
import Derived.Test.YtocmbifljkcmeaaDoorR8W
import Derived.Test.YtocmbifljkcmeaaDoorR8E
set_option linter.unusedVariables false
namespace Go.Proofs.YtocmbifljkcmeaaDoor
open Go Go.Proofs Go.RowKit Go.Lib

/-- A square table's cells, now and later. -/
theorem TabIn.sqB {w : World} {S : Option Addr} {R : List (List Int)} {n : Nat} (h : TabIn w (fun b => b < w.heap.size) S R) (hs : sqrB R n = true) (hn : 0 < n) :
    ∃ b off, S = some ⟨b, off, none⟩ ∧ b < w.heap.size ∧ ∀ i, i < n → ∃ bi oi ci, bi < w.heap.size ∧ ∀ w', Below w.heap.size w w' → w'.cell? ⟨b, off + i, none⟩ = some (.slice (some ⟨bi, oi, none⟩) n ci) ∧ ∀ k, k < n → w'.cell? ⟨bi, oi + k, none⟩ = some (.int .i64 (at2 R i k)) := by
  obtain ⟨b, off, hS, hb, hc⟩ := h.sq hs hn
  refine ⟨b, off, hS, hb, fun i hi => ?_⟩
  obtain ⟨bi, oi, ci, h1, h2, _, _, h3⟩ := hc i hi
  exact ⟨bi, oi, ci, h2, fun w' hw => ⟨(hw.cell (p := ⟨b, off + i, none⟩) hb).trans h1, fun k hk => (hw.cell (p := ⟨bi, oi + k, none⟩) h2).trans (h3 k hk)⟩⟩
/-- The strings' cells, now and later. -/
theorem StrsIn.ats {w : World} {A : Option Addr} {l : List Str} (h : S3.StrsIn w (fun b => b < w.heap.size) A l) (hn : 0 < l.length) :
    ∃ b off, A = some ⟨b, off, none⟩ ∧ b < w.heap.size ∧ ∀ w', Below w.heap.size w w' → ∀ i, i < l.length → w'.cell? ⟨b, off + i, none⟩ = some (.string (ba (l.getD i []))) := by
  rcases h with h | ⟨b, off, hA, hP, hc⟩
  · subst h; simp at hn
  · refine ⟨b, off, hA, hP, fun w' hw i hi => ?_⟩
    have e : l.getD i [] = l[i] := by simp [List.getD, List.getElem?_eq_getElem hi]
    rw [e, hw.cell (p := ⟨b, off + i, none⟩) hP]
    exact hc i _ (List.getElem?_eq_getElem hi)
/-- What stands while a record is made. -/
structure WT (w0 : World) (v0 v1 : Value) (b1 oi ok : Nat) (X Y : Value) (bs os : Nat) (V : Value) (br or : Nat) (Z : Value) (w : World) : Prop where
  g : KT w0 v0 v1 w
  c1 : w.cell? ⟨b1, oi, none⟩ = some X
  c2 : w.cell? ⟨b1, ok, none⟩ = some Y
  c3 : w.cell? ⟨bs, os, none⟩ = some V
  c4 : w.cell? ⟨br, or, none⟩ = some Z
  z1 : b1 < w0.heap.size
  z2 : bs < w0.heap.size
  z3 : br < w0.heap.size
section
variable {w0 : World} {v0 v1 : Value} {b1 oi ok : Nat} {X Y : Value} {bs os : Nat} {V : Value} {br or : Nat} {Z : Value} {w w' : World}
theorem WT.next (h : WT w0 v0 v1 b1 oi ok X Y bs os V br or Z w) (k : Below w.heap.size w w') : WT w0 v0 v1 b1 oi ok X Y bs os V br or Z w' := by
  have hz := h.g.b.size
  exact ⟨h.g.next k, (k.cell (p := ⟨b1, oi, none⟩) (Nat.lt_of_lt_of_le h.z1 hz)).trans h.c1, (k.cell (p := ⟨b1, ok, none⟩) (Nat.lt_of_lt_of_le h.z1 hz)).trans h.c2, (k.cell (p := ⟨bs, os, none⟩) (Nat.lt_of_lt_of_le h.z2 hz)).trans h.c3, (k.cell (p := ⟨br, or, none⟩) (Nat.lt_of_lt_of_le h.z3 hz)).trans h.c4, h.z1, h.z2, h.z3⟩
theorem WT.drew (h : WT w0 v0 v1 b1 oi ok X Y bs os V br or Z w) : WT w0 v0 v1 b1 oi ok X Y bs os V br or Z w.drew := h.next (Below.refl _ w).drew
theorem KT.grown (h : KT w0 v0 v1 w) {row : Option Nat} (hg : w.grownBy w' row) (hr : ∀ k, row = some k → w0.heap.size + 1 ≤ k) : KT w0 v0 v1 w' := by
  have hlt := h.lt
  have kc : ∀ o : Nat, w'.cell? ⟨w0.heap.size, o, none⟩ = w.cell? ⟨w0.heap.size, o, none⟩ := fun o => World.cell?_of_block (hg.block w0.heap.size hlt (fun e => by have := hr _ e.symm; omega))
  exact ⟨(kc 0).trans h.x0, (kc 1).trans h.x1, Nat.lt_of_lt_of_le hlt hg.size, h.b.trans ((Below.refl _ w).grown hg h.b.size (fun k hk => by have := hr k hk; omega))⟩
theorem WT.grown (h : WT w0 v0 v1 b1 oi ok X Y bs os V br or Z w) {row : Option Nat} (hg : w.grownBy w' row) (hr : ∀ k, row = some k → w0.heap.size + 1 ≤ k) : WT w0 v0 v1 b1 oi ok X Y bs os V br or Z w' := by
  have hz := h.g.b.size
  have kc : ∀ b o : Nat, b < w0.heap.size → w'.cell? ⟨b, o, none⟩ = w.cell? ⟨b, o, none⟩ := fun b o hb => World.cell?_of_block (hg.block b (by omega) (fun e => by have := hr _ e.symm; omega))
  exact ⟨h.g.grown hg hr, (kc _ _ h.z1).trans h.c1, (kc _ _ h.z1).trans h.c2, (kc _ _ h.z2).trans h.c3, (kc _ _ h.z3).trans h.c4, h.z1, h.z2, h.z3⟩
end

set_option maxHeartbeats 16000000 in
set_option maxRecDepth 100000 in
theorem twrite_any (A S : Option Addr) (l : List Str) (R : List (List Int)) (c d : Nat) (w : World) (h : TravIn w (fun b => b < w.heap.size) A S (l, R)) (hc : l.length ≤ c) (hc2 : c ≤ 9223372036854775807) (h64 : R.length ≤ 9223372036854775807) :
    Calls Tryd.prog 6 #[.agg #[.slice A l.length c, .slice S R.length d]] w (WriteOut (writeT (l, R)) w) := by
  obtain ⟨iS, hiS, hzS, hsS, hbS⟩ := info_parts infoStrs7
  unfold WriteOut writeT
  have hk := KT.first w (.slice A l.length c) (.slice S R.length d) 25
  have HK := hid hk
  have HS := hid h
  have cV : ∀ w', Below w.heap.size w w' → Calls Tryd.prog 10 #[.agg #[.slice A l.length c, .slice S R.length d]] w' (Says (.int .i64 (validT (l, R))) w') :=
    fun w' hb => tvalid_any A S l R c d w' ((h.below hb).mono (fun k hk => Nat.lt_of_lt_of_le hk hb.size)) hc hc2 h64
  unfold Says at cV
  obtain ⟨E, hE⟩ : ∃ E, validT (l, R) = E := ⟨_, rfl⟩
  rw [hE] at cV ⊢
  have CV := hid cV
  obtain ⟨x0, x1, _, _⟩ := id hk
  clear hk h cV
  by_cases hE0 : E = 0
  · subst hE0
    obtain ⟨h8, hsq, hok⟩ := validT_zero hE
    rw [if_neg (by simp)]
    dsimp only at h8 hsq hok
    have hRl := sqrB_len hsq
    have HCS := hid (fun hn => HS.out.s.sqB hsq hn)
    have HCA := hid (fun hn => StrsIn.ats HS.out.b hn)
    have HOK := hid ((entsOk_iff R l.length).1 hok)
    dsimp only at HCS HCA ⊢
    obtain ⟨n, hn⟩ : ∃ n, l.length = n := ⟨_, rfl⟩
    rw [hRl, hn] at x1 CV HK
    rw [hn] at x0 HCS HCA HOK h8
    rw [hRl, hn]
    have h8' : Hid (n ≤ 8) := hid h8
    clear hE hok hsq hRl hn HS
    go_enter Tryd.func6, Tryd.ntmps6
    go_wp2_with fail
    refine (CV.out _ HK.out.b).mono ?_
    rintro e w1 ⟨rfl, hb⟩
    have hk1 := HK.out.next hb
    have HK1 := hid hk1
    clear hb HK CV x0 x1
    obtain ⟨x0, x1, _, _⟩ := hk1
    go_wp2
    clear x0 x1
    go_loopw [5, 6, 7, 8, 9, 18] (fun fv _ _ _ _ iv wr => ∃ (i : Nat) (L : List RowA), iv = .int .i64 (i : Int) ∧ i ≤ n ∧ Hid (L.map (·.1) = waysOf (l, R) n i) ∧ Hid (RowsRow wr (w.heap.size + 1) fv L) ∧ Hid (KT w (.slice A n c) (.slice S n d) wr)) (fun _ _ _ _ _ iv _ => n - (RowKit.intOf iv).toNat)
    case atStart => exact ⟨0, [], rfl, Nat.zero_le _, hid rfl, hid (RowsRow.nil _ _), HK1⟩
    case round =>
      obtain ⟨i, L0, rfl, hi, hL, hrow, hK⟩ := hrel
      obtain ⟨Ar0, cr0, hvr, _⟩ := hrow.out.rowsIn
      subst hvr
      by_cases hlt : i < n
      · have hltz : (i : Int) < (n : Int) := by omega
        obtain ⟨bs, os, rfl, hbs, hcS⟩ := HCS.out (by omega)
        obtain ⟨b1, o1, rfl, hb1, hcA⟩ := HCA.out (by omega)
        obtain ⟨bi, oi, ci, hbi, hrw⟩ := hcS i hlt
        have y0 := (hrw wr hK.out.b).1
        have HRW := hid hrw
        have HCA2 := hid hcA
        have HKw := hid hK.out
        obtain ⟨NL0, hNL0⟩ : ∃ m, L0.length = m := ⟨_, rfl⟩
        have HROW := hid hrow.out
        have HL0 := hid hL.out
        rw [hNL0] at HROW ⊢
        clear hrw hcS hcA hL hrow hNL0 HCS HCA
        go_wp2
        clear y0
        go_loopw [5, 8, 9, 25] (fun fv _ _ kv wq => ∃ (k : Nat) (L : List RowA), kv = .int .i64 (k : Int) ∧ k ≤ n ∧ Hid (L.map (·.1) = waysOf (l, R) n i ++ waysTo (l, R) i k) ∧ Hid (RowsRow wq (w.heap.size + 1) fv L) ∧ Hid (KT w (.slice (some ⟨b1, o1, none⟩) n c) (.slice (some ⟨bs, os, none⟩) n d) wq)) (fun _ _ _ kv _ => n - (RowKit.intOf kv).toNat)
        case atStart => exact ⟨0, L0, rfl, Nat.zero_le _, hid (by rw [HL0.out]; simp [waysTo]), HROW, HKw⟩
        case round =>
          clear HROW HL0 HKw hK
          obtain ⟨k, L, rfl, hk, hL, hrow, hK⟩ := hrel
          obtain ⟨Ar, cr, hvr, _⟩ := hrow.out.rowsIn
          subst hvr
          by_cases hlt2 : k < n
          · have hltz2 : (k : Int) < (n : Int) := by omega
            have hd : decide (n ≤ k) = false := decide_eq_false (by omega)
            have hd0 : decide (n ≤ i) = false := decide_eq_false (by omega)
            have y1 := (HRW.out _ hK.out.b).2 k hlt2
            have y0 := (HRW.out _ hK.out.b).1
            have hok := (okAt_iff R i k).1 (HOK.out i hlt k hlt2)
            have hst : waysTo (l, R) i (k + 1) = waysTo (l, R) i k ++ (if knows (l, R) i k = true then [wayS (l, R) i k] else []) := rfl
            unfold knows wayS at hst
            dsimp only at hst
            have z1 := HCA2.out _ hK.out.b i (by omega)
            have z2 := HCA2.out _ hK.out.b k hlt2
            obtain ⟨x, hx⟩ : ∃ x, at2 R i k = x := ⟨_, rfl⟩
            rw [hx] at y1 hst hok
            by_cases hik : i < k
            · have hikz : (i : Int) < (k : Int) := by omega
              by_cases hx1 : x = -1
              · have hxb : (x != -1) = false := by simp [hx1]
                have HN : Hid (L.map (·.1) = waysOf (l, R) n i ++ waysTo (l, R) i (k + 1)) := hid (by rw [hst, hL.out, if_neg (by simp [hx1])]; simp)
                have HRR := hid hrow.out
                obtain ⟨NL, hNL⟩ : ∃ m, L.length = m := ⟨_, rfl⟩
                rw [hNL] at HRR ⊢
                clear hst hok hx1 hx hik z1 z2 hL hrow hNL
                go_wp2
                go_roundw
                case rel => exact ⟨k + 1, L, by go_num, by omega, HN, HRR, hK⟩
                case measure => simp [RowKit.intOf]; omega
              · have hxb : (x != -1) = true := by simpa using hx1
                have hu : ((x.toNat : Nat) : Int) = x := by omega
                have cW := fun w => wayFields_any (l.getD i []) (l.getD k []) x.toNat (by omega) w
                have hst2 : L.map (·.1) ++ [[l.getD i [], l.getD k [], decDigits x.toNat]] = waysOf (l, R) n i ++ waysTo (l, R) i (k + 1) := by rw [hst, hL.out, if_pos (by simp [hik, hx1])]; simp
                have hLl : L.length ≤ 200 := by
                  have e1 := congrArg List.length hL.out
                  rw [List.length_map, List.length_append] at e1
                  have e2 := waysOf_len (l, R) n i
                  have e3 := waysTo_len (l, R) i k
                  have e4 := h8'.out
                  have e5 : i * n ≤ 8 * 8 := Nat.mul_le_mul (by omega) e4
                  omega
                rw [hu] at cW
                unfold RowOut at cW
                obtain ⟨RW, hRW⟩ : ∃ r, [l.getD i [], l.getD k [], decDigits x.toNat] = r := ⟨_, rfl⟩
                rw [hRW] at cW hst2
                obtain ⟨X, hX⟩ : ∃ X, ba (l.getD i []) = X := ⟨_, rfl⟩
                obtain ⟨Y, hY⟩ : ∃ X, ba (l.getD k []) = X := ⟨_, rfl⟩
                rw [hX] at cW z1
                rw [hY] at cW z2
                have HWT : Hid (WT w (.slice (some ⟨b1, o1, none⟩) n c) (.slice (some ⟨bs, os, none⟩) n d) b1 (o1 + i) (o1 + k) (.string X) (.string Y) bs (os + i) (.slice (some ⟨bi, oi, none⟩) n ci) bi (oi + k) (.int .i64 x) wr) := hid ⟨hK.out, z1, z2, y0, y1, hb1, hbs, hbi⟩
                have CW := hid cW
                have HST := hid hst2
                have HC3 : Hid (L.length + 1 ≤ maxLen) := hid (by unfold maxLen; omega)
                have HC4 : Hid ((L.length + 1) * 24 ≤ 140737488355328) := hid (by omega)
                clear hst hst2 hok hx1 hx hik hX hY hRW cW hu hL hLl hK
                go_wp2_with fail
                clear y0 y1 z1 z2
                refine wp_region_held_drew (S := WT w (.slice (some ⟨b1, o1, none⟩) n c) (.slice (some ⟨bs, os, none⟩) n d) b1 (o1 + i) (o1 + k) (.string X) (.string Y) bs (os + i) (.slice (some ⟨bi, oi, none⟩) n ci) bi (oi + k) (.int .i64 x)) (by kernel_rfl) HWT.out.drew (fun hHeld => ?_)
                (refine wpAnyH_take (i := 0) (oi := _) (v := ?_) rfl (by kernel_rfl) (by kernel_rfl) (by kernel_rfl) (fun _ _ _ h => h) (Or.inl ⟨by rfl, ?_⟩) (by assumption) ?_; rotate_left; (intro wS hSw; obtain ⟨⟨x0, x1, _, _⟩, c1, c2, c3, c4, _, _, _⟩ := hSw; (try simp only [List.getElem_toArray, List.getElem_cons_zero]); go_simp; (try with_reducible rfl)))
                try simp only [List.getElem_toArray, List.getElem_cons_zero, Act.put, List.setIfInBounds_toArray, List.set_cons_zero, List.set_cons_succ]
                (refine wpAnyH_take (i := 1) (oi := _) (v := ?_) rfl (by kernel_rfl) (by kernel_rfl) (by kernel_rfl) (fun _ _ _ h => h) (Or.inl ⟨by rfl, ?_⟩) (by assumption) ?_; rotate_left; (intro wS hSw; obtain ⟨⟨x0, x1, _, _⟩, c1, c2, c3, c4, _, _, _⟩ := hSw; (try simp only [List.getElem_toArray, List.getElem_cons_succ, List.getElem_cons_zero]); go_simp; (try with_reducible rfl)))
                try simp only [List.getElem_toArray, List.getElem_cons_succ, List.getElem_cons_zero, Act.put, List.setIfInBounds_toArray, List.set_cons_zero, List.set_cons_succ]
                (refine wpAnyH_take (i := 2) (oi := _) (v := ?_) rfl (by kernel_rfl) (by kernel_rfl) (by kernel_rfl) (fun _ _ _ h => h) (Or.inl ⟨by rfl, ?_⟩) (by assumption) ?_; rotate_left; (intro wS hSw; obtain ⟨⟨x0, x1, _, _⟩, c1, c2, c3, c4, _, _, _⟩ := hSw; (try simp only [List.getElem_toArray, List.getElem_cons_succ, List.getElem_cons_zero]); go_simp; (try with_reducible rfl)))
                try simp only [List.getElem_toArray, List.getElem_cons_succ, List.getElem_cons_zero, Act.put, List.setIfInBounds_toArray, List.set_cons_zero, List.set_cons_succ]
                (refine wpAnyH_take (i := 3) (oi := _) (v := ?_) rfl (by kernel_rfl) (by kernel_rfl) (by kernel_rfl) (fun _ _ _ h => h) (Or.inl ⟨by rfl, ?_⟩) (by assumption) ?_; rotate_left; (intro wS hSw; obtain ⟨⟨x0, x1, _, _⟩, c1, c2, c3, c4, _, _, _⟩ := hSw; (try simp only [List.getElem_toArray, List.getElem_cons_succ, List.getElem_cons_zero]); go_simp; (try with_reducible rfl)))
                try simp only [List.getElem_toArray, List.getElem_cons_succ, List.getElem_cons_zero, Act.put, List.setIfInBounds_toArray, List.set_cons_zero, List.set_cons_succ]
                (refine wpAnyH_take (i := 4) (oi := _) (v := ?_) rfl (by kernel_rfl) (by kernel_rfl) (by kernel_rfl) (fun _ _ _ h => h) (Or.inl ⟨by rfl, ?_⟩) (by assumption) ?_; rotate_left; (intro wS hSw; obtain ⟨⟨x0, x1, _, _⟩, c1, c2, c3, c4, _, _, _⟩ := hSw; (try simp only [List.getElem_toArray, List.getElem_cons_succ, List.getElem_cons_zero]); go_simp; (try with_reducible rfl)))
                try simp only [List.getElem_toArray, List.getElem_cons_succ, List.getElem_cons_zero, Act.put, List.setIfInBounds_toArray, List.set_cons_zero, List.set_cons_succ]
                (refine wpAnyH_take (i := 5) (oi := _) (v := ?_) rfl (by kernel_rfl) (by kernel_rfl) (by kernel_rfl) (fun _ _ _ h => h) (Or.inl ⟨by rfl, ?_⟩) (by assumption) ?_; rotate_left; (intro wS hSw; obtain ⟨⟨x0, x1, _, _⟩, c1, c2, c3, c4, _, _, _⟩ := hSw; (try simp only [List.getElem_toArray, List.getElem_cons_succ, List.getElem_cons_zero]); go_simp; (try with_reducible rfl)))
                try simp only [List.getElem_toArray, List.getElem_cons_succ, List.getElem_cons_zero, Act.put, List.setIfInBounds_toArray, List.set_cons_zero, List.set_cons_succ]
                (refine wpAnyH_take (i := 6) (oi := _) (v := ?_) rfl (by kernel_rfl) (by kernel_rfl) (by kernel_rfl) (fun _ _ _ h => h) (Or.inl ⟨by rfl, ?_⟩) (by assumption) ?_; rotate_left; (intro wS hSw; obtain ⟨⟨x0, x1, _, _⟩, c1, c2, c3, c4, _, _, _⟩ := hSw; (try simp only [List.getElem_toArray, List.getElem_cons_succ, List.getElem_cons_zero]); go_simp; (try with_reducible rfl)))
                try simp only [List.getElem_toArray, List.getElem_cons_succ, List.getElem_cons_zero, Act.put, List.setIfInBounds_toArray, List.set_cons_zero, List.set_cons_succ]
                (refine wpAnyH_take (i := 7) (oi := _) (v := ?_) rfl (by kernel_rfl) (by kernel_rfl) (by kernel_rfl) (fun _ _ _ h => h) (Or.inl ⟨by rfl, ?_⟩) (by assumption) ?_; rotate_left; (intro wS hSw; obtain ⟨⟨x0, x1, _, _⟩, c1, c2, c3, c4, _, _, _⟩ := hSw; (try simp only [List.getElem_toArray, List.getElem_cons_succ, List.getElem_cons_zero]); go_simp; (try with_reducible rfl)))
                try simp only [List.getElem_toArray, List.getElem_cons_succ, List.getElem_cons_zero, Act.put, List.setIfInBounds_toArray, List.set_cons_zero, List.set_cons_succ]
                (refine wpAnyH_take (i := 8) (oi := _) (v := ?_) rfl (by kernel_rfl) (by kernel_rfl) (by kernel_rfl) (fun _ _ _ h => h) (Or.inl ⟨by rfl, ?_⟩) (by assumption) ?_; rotate_left; (intro wS hSw; obtain ⟨⟨x0, x1, _, _⟩, c1, c2, c3, c4, _, _, _⟩ := hSw; (try simp only [List.getElem_toArray, List.getElem_cons_succ, List.getElem_cons_zero]); go_simp; (try with_reducible rfl)))
                try simp only [List.getElem_toArray, List.getElem_cons_succ, List.getElem_cons_zero, Act.put, List.setIfInBounds_toArray, List.set_cons_zero, List.set_cons_succ]
                (refine wpAnyH_take (i := 9) (oi := _) (v := ?_) rfl (by kernel_rfl) (by kernel_rfl) (by kernel_rfl) (fun _ _ _ h => h) (Or.inl ⟨by rfl, ?_⟩) (by assumption) ?_; rotate_left; (intro wS hSw; obtain ⟨⟨x0, x1, _, _⟩, c1, c2, c3, c4, _, _, _⟩ := hSw; (try simp only [List.getElem_toArray, List.getElem_cons_succ, List.getElem_cons_zero]); go_simp; (try with_reducible rfl)))
                try simp only [List.getElem_toArray, List.getElem_cons_succ, List.getElem_cons_zero, Act.put, List.setIfInBounds_toArray, List.set_cons_zero, List.set_cons_succ]
                (refine wpAnyH_take (i := 10) (oi := _) (v := ?_) rfl (by kernel_rfl) (by kernel_rfl) (by kernel_rfl) (fun _ _ _ h => h) (Or.inl ⟨by rfl, ?_⟩) (by assumption) ?_; rotate_left; (intro wS hSw; obtain ⟨⟨x0, x1, _, _⟩, c1, c2, c3, c4, _, _, _⟩ := hSw; (try simp only [List.getElem_toArray, List.getElem_cons_succ, List.getElem_cons_zero]); go_simp; (try with_reducible rfl)))
                try simp only [List.getElem_toArray, List.getElem_cons_succ, List.getElem_cons_zero, Act.put, List.setIfInBounds_toArray, List.set_cons_zero, List.set_cons_succ]
                (refine wpAnyH_take (i := 11) (oi := _) (v := ?_) rfl (by kernel_rfl) (by kernel_rfl) (by kernel_rfl) (fun _ _ _ h => h) (Or.inl ⟨by rfl, ?_⟩) (by assumption) ?_; rotate_left; (intro wS hSw; obtain ⟨⟨x0, x1, _, _⟩, c1, c2, c3, c4, _, _, _⟩ := hSw; (try simp only [List.getElem_toArray, List.getElem_cons_succ, List.getElem_cons_zero]); go_simp; (try with_reducible rfl)))
                try simp only [List.getElem_toArray, List.getElem_cons_succ, List.getElem_cons_zero, Act.put, List.setIfInBounds_toArray, List.set_cons_zero, List.set_cons_succ]
                (refine wpAnyH_take (i := 12) (oi := _) (v := ?_) rfl (by kernel_rfl) (by kernel_rfl) (by kernel_rfl) (fun _ _ _ h => h) (Or.inl ⟨by rfl, ?_⟩) (by assumption) ?_; rotate_left; (intro wS hSw; obtain ⟨⟨x0, x1, _, _⟩, c1, c2, c3, c4, _, _, _⟩ := hSw; (try simp only [List.getElem_toArray, List.getElem_cons_succ, List.getElem_cons_zero]); go_simp; (try with_reducible rfl)))
                try simp only [List.getElem_toArray, List.getElem_cons_succ, List.getElem_cons_zero, Act.put, List.setIfInBounds_toArray, List.set_cons_zero, List.set_cons_succ]
                (refine wpAnyH_ready (rs := [13]) (by kernel_rfl) (by simp) ?_; refine AllReadyH.cons (o := _) rfl (fun K hK => ?_) AllReadyH.nil; (try simp only [List.getElem_toArray, List.getElem_cons_succ, List.getElem_cons_zero]); go_simp; go_at_call 20; refine (CW.out _).mono ?_; rintro e w4 ⟨⟨v4, rfl, hrow4'⟩, hb4⟩; obtain ⟨A4, c4', rfl, -, -, -⟩ := hrow4'.strsIn; have hHeld := hHeld.next hb4; have HB4 := hid hb4; have HIN4 := hid hrow4'; have HKX := hid hHeld.g; have hrow4 : w4.ownsRow (w.heap.size + 1) 22 1 (.slice Ar L.length cr) L.length (L.map rowV) := row_under (row_under hrow.out.1 (Below.refl _ wr).drew) hb4; have HRow4 := hid hrow4; clear hb4 hrow4 hrow4'; go_wp2_with fail; refine hK.out _ _ hHeld (fun hHeld => ?_); clear hK K)
                try simp only [List.getElem_toArray, List.getElem_cons_succ, List.getElem_cons_zero, Act.put, List.setIfInBounds_toArray, List.set_cons_zero, List.set_cons_succ]
                (refine wpAnyH_ready (rs := [14]) (by kernel_rfl) (by simp) ?_; refine AllReadyH.cons (o := _) rfl (fun K hK => ?_) AllReadyH.nil; (try simp only [List.getElem_toArray, List.getElem_cons_succ, List.getElem_cons_zero]); go_simp; go_wp2_with fail; refine hK.out _ _ (hHeld.next ((Below.refl _ _).alloc (Nat.le_refl _) _)) (fun hHeld => ?_); clear hK K)
                try simp only [List.getElem_toArray, List.getElem_cons_succ, List.getElem_cons_zero, Act.put, List.setIfInBounds_toArray, List.set_cons_zero, List.set_cons_succ]
                (refine wpAnyH_ready (rs := [15]) (by kernel_rfl) (by simp) ?_; refine AllReadyH.cons (o := _) rfl (fun K hK => ?_) AllReadyH.nil; (try simp only [List.getElem_toArray, List.getElem_cons_succ, List.getElem_cons_zero]); refine step_append_lies (a := { tmps := _, defers := _ }) _ (by rfl) _ _ _ (by rfl) (w.heap.size + 1) 22 iS (.slice none 0 0) 1 24 Tryd.underlying27 hiS hzS hsS hbS rfl (by decide) (.slice Ar L.length cr) L.length (L.map rowV) (by rfl) (World.ownsRow.alloc HRow4.out _) ⟨w4.heap.size, 0, none⟩ 1 1 [.slice A4 RW.length c4'] (by rfl) (by rfl) (one_new _ _ _) (one_slice _ _ _) (by decide) HC3.out HC4.out (by have := HKX.out.lt; simp; omega) (w4.heap.size + 1) (by simp) ?_; intro g7 cap7 w7 hown7 hgrow7 hat7 hlt7; have hHeld := hHeld.grown hgrow7 (fun k hk => (World.ownsRow.lt HRow4.out k hk).1); have HOWN := hid hown7; have HGR := hid hgrow7; have HAT := hid hat7; clear hown7 hgrow7 hat7; refine hK.out _ _ hHeld (fun hHeld => ?_); clear hK K)
                try simp only [Act.put, List.setIfInBounds_toArray, List.set_cons_zero, List.set_cons_succ]
                (refine wpAnyH_take (i := 16) (oi := _) (v := ?_) rfl (by kernel_rfl) (by kernel_rfl) (by kernel_rfl) (fun _ _ _ h => h) (Or.inl ⟨by rfl, ?_⟩) (by assumption) ?_; rotate_left; (intro wS hSw; obtain ⟨⟨x0, x1, _, _⟩, c1, c2, c3, c4, _, _, _⟩ := hSw; (try simp only [List.getElem_toArray, List.getElem_cons_succ, List.getElem_cons_zero]); go_simp; (try with_reducible rfl)))
                try simp only [List.getElem_toArray, List.getElem_cons_succ, List.getElem_cons_zero, Act.put, List.setIfInBounds_toArray, List.set_cons_zero, List.set_cons_succ]
                refine wpAnyH_done (by kernel_rfl) ?_ _
                have hsn := RowsRow.snoc hrow.out (by have := HWT.out.g.lt; exact this) ((Below.refl _ wr).drew) HB4.out HIN4.out ((Below.refl _ w4).alloc (Nat.le_refl _) _) HOWN.out HGR.out (by
                  rcases HAT.out with h | h
                  · exact .inl h.symm
                  · exact .inr (by rw [h]; simp [Value.ownBlock]))
                have HSN := hid hsn
                have HK7 := hid hHeld.g
                have HL2 : Hid ((L ++ [((RW, A4, c4') : RowA)]).map (·.1) = waysOf (l, R) n i ++ waysTo (l, R) i (k + 1)) := hid (by rw [← HST.out, List.map_append]; rfl)
                clear hsn hHeld
                go_wp2
                go_roundw
                case rel => exact ⟨k + 1, L ++ [((RW, A4, c4') : RowA)], by go_num, by omega, HL2, by simpa using HSN, HK7⟩
                case measure => simp [RowKit.intOf]; omega
            · have hikz : ¬ (i : Int) < (k : Int) := by omega
              have HN : Hid (L.map (·.1) = waysOf (l, R) n i ++ waysTo (l, R) i (k + 1)) := hid (by rw [hst, hL.out, if_neg (by simp; omega)]; simp)
              have HRR := hid hrow.out
              obtain ⟨NL, hNL⟩ : ∃ m, L.length = m := ⟨_, rfl⟩
              rw [hNL] at HRR ⊢
              clear hst hok hx hik z1 z2 hL hrow hNL
              go_wp2
              go_roundw
              case rel => exact ⟨k + 1, L, by go_num, by omega, HN, HRR, hK⟩
              case measure => simp [RowKit.intOf]; omega
          · have hltz2 : ¬ (k : Int) < (n : Int) := by omega
            obtain rfl : k = n := by omega
            have HN : Hid (L.map (·.1) = waysOf (l, R) k (i + 1)) := hid (by rw [hL.out]; rfl)
            have HRR := hid hrow.out
            obtain ⟨NL, hNL⟩ : ∃ m, L.length = m := ⟨_, rfl⟩
            rw [hNL] at HRR ⊢
            clear hL hrow hNL
            go_wp2
            go_roundw
            case rel => exact ⟨i + 1, L, by go_num, by omega, HN, HRR, hK⟩
            case measure => simp [RowKit.intOf]; omega
      · have hltz : ¬ (i : Int) < (n : Int) := by omega
        obtain rfl : i = n := by omega
        have HRR := hid hrow.out
        have HLL := hid hL.out
        obtain ⟨NL, hNL⟩ : ∃ m, L0.length = m := ⟨_, rfl⟩
        rw [hNL] at HRR ⊢
        clear hL hrow hNL
        go_wp2
        go_ret2
        exact ⟨⟨_, L0, HLL.out, rfl, HRR.out.low (by omega)⟩, hK.out.b⟩
  · have hR1 : (E != 0) = true := by simpa using hE0
    have hR2 : (E == 0) = false := by simpa using hE0
    rw [if_pos hE0]
    clear hE
    go_enter Tryd.func6, Tryd.ntmps6
    go_wp2_with fail
    refine (CV.out _ HK.out.b).mono ?_
    rintro e w1 ⟨rfl, hb⟩
    have HK1 := hid (HK.out.next hb)
    clear hb HK CV
    go_wp2
    go_ret2
    exact ⟨⟨_, [], rfl, rfl, RowsRow.nil _ _⟩, HK1.out.b⟩
end Go.Proofs.YtocmbifljkcmeaaDoor
