/-
  The records of rooms: Write of the program. Conditions: the rooms lie in memory; the variables hold what their text lays.
  The records of classes: Write of coursefile. Conditions: the classes lie in memory; the variables hold what their text lays.
  The texts of starts by the specification: Name of a day, decimals of two digits. Conditions: the table of the days' names holds what its text lays.
  The next made number, named: Next of timetablemade.Dice gives back a function of the list and the place. Conditions: the dice lie in memory.
  What is kept while the dice give out numbers, and what a function hands back through a cell. Conditions: as the lemmas state.
  The walk of Dice.some: some strings of a list, in their order. Conditions: dice in memory; the strings lie in another block; there are at most 100.
  A made set of weeks: Set of timetablemade.Dice gives back a number from 1 to 2^n - 1. Conditions: the dice lie in memory; n is from 1 to 20.
  Made grids and times: Grid, Time, One, OddGrid, OddTime of timetablemade.Dice. Conditions: the dice lie in memory; the grid is as made.
-/
import Derived.Test.YtigdcgklpapfbaaGreatDoorVR24
set_option linter.unusedVariables false
namespace Go.Proofs.YtigdcgklpapfbaaGreatDoor
open Go Go.Proofs Go.RowKit Go.Lib

abbrev RowA := List Str × (Option Addr × Nat)
def rowV (p : RowA) : Value := .slice p.2.1 p.1.length p.2.2
/-- Lists of strings that the call has made, in a slice of its own; what the slice leads to lies in other blocks of the call's own. -/
def RowsRow (w : World) (B : Nat) (v : Value) (L : List RowA) : Prop := w.ownsRow B 30 1 v L.length (L.map rowV) ∧
  ∀ p ∈ L, S3.StrsIn w (fun b => B ≤ b ∧ b < w.heap.size ∧ v.ownBlock ≠ some b) p.2.1 p.1 ∧ p.1.length ≤ p.2.2 ∧ p.2.2 ≤ 9223372036854775807
theorem RowsRow.nil (w : World) (B : Nat) : RowsRow w B (.slice none 0 0) [] := ⟨World.ownsRow_nil _ _ _ _, fun p hp => by simp at hp⟩
theorem RowsRow.rowsIn {w : World} {B : Nat} {v : Value} {L : List RowA} (h : RowsRow w B v L) : ∃ A c, v = .slice A L.length c ∧ L.length ≤ c ∧ c ≤ 9223372036854775807 ∧ RowsIn w (fun b => B ≤ b ∧ b < w.heap.size) A (L.map (·.1)) := by
  obtain ⟨h, hL⟩ := h
  have h' := h
  rcases h.2 with ⟨hv, h0⟩ | ⟨g, cap, cur, hv, hB, hg, h1, h2, _⟩
  · have hl : L = [] := List.eq_nil_of_length_eq_zero h0
    subst hl
    exact ⟨none, 0, by rw [hv]; rfl, Nat.le_refl _, by omega, .inl rfl⟩
  · refine ⟨_, cap, hv, h1, by unfold maxLen at h2; omega, .inr ⟨g, 0, rfl, ⟨hB, (Array.getElem?_eq_some_iff.1 hg).1⟩, fun j l hj => ?_⟩⟩
    rw [List.getElem?_map] at hj
    obtain ⟨p, hp, rfl⟩ := Option.map_eq_some_iff.1 hj
    obtain ⟨f1, f2, f3⟩ := hL p (List.mem_of_getElem? hp)
    refine ⟨p.2.1, p.2.2, ?_, f2, f3, f1.mono (fun b hb => ⟨hb.1, hb.2.1⟩)⟩
    have := World.ownsRow.cells h' (g := g) (by rw [hv]; rfl) j (rowV p) (by rw [List.getElem?_map, hp]; rfl)
    rw [Addr.add_lit] at this
    exact this
/-- One row more. -/
theorem RowsRow.snoc {w w1 w2 w3 w4 : World} {B : Nat} {v v' : Value} {L : List RowA} {l : List Str} {A : Option Addr} {c : Nat} (h : RowsRow w B v L) (hBw : B ≤ w1.heap.size) (h1 : Below w.heap.size w w1) (hb : Below w1.heap.size w1 w2) (hr : S3.StrRow w2 w1.heap.size (.slice A l.length c) l)
    (h3 : Below w2.heap.size w2 w3) (hown' : w4.ownsRow B 30 1 v' (L.length + 1) (L.map rowV ++ [.slice A l.length c])) (hg : w3.grownBy w4 v.ownBlock) (hat : v'.ownBlock = v.ownBlock ∨ v'.ownBlock = some w3.heap.size) : RowsRow w4 B v' (L ++ [(l, A, c)]) := by
  have hs1 := h1.size
  have hs2 := hb.size
  have hs3 := h3.size
  have hs4 := hg.size
  have hvl : ∀ g, v.ownBlock = some g → g < w.heap.size := fun g hg => (World.ownsRow.lt h.1 g hg).2
  refine ⟨by rw [List.map_append, List.length_append, List.length_singleton]; exact hown', fun p hp => ?_⟩
  rcases List.mem_append.1 hp with hp | hp
  · obtain ⟨f1, f2, f3⟩ := h.2 p hp
    refine ⟨S3.StrsIn.mono (f1.kept (w' := w4) (fun b hb' => ?_)) (fun b hb' => ⟨hb'.1, by omega, ?_⟩), f2, f3⟩
    · obtain ⟨k1, k2, k3⟩ := hb'
      rw [hg.block b (by omega) (fun e => k3 e.symm), h3.block b (by omega), hb.block b (by omega), h1.block b k2]
    · obtain ⟨k1, k2, k3⟩ := hb'
      intro e
      rcases hat with ha | ha
      · rw [ha] at e; exact k3 e
      · rw [ha] at e
        injection e with e
        omega
  · rw [List.mem_singleton] at hp
    subst hp
    obtain ⟨A5, c5, eA, hl5, hc5, hI5⟩ := hr.strsIn
    obtain ⟨rfl, rfl⟩ : A = A5 ∧ c = c5 := by injection eA with e1 _ e3; exact ⟨e1, e3⟩
    refine ⟨S3.StrsIn.mono (hI5.kept (w' := w4) (fun b hb' => ?_)) (fun b hb' => ⟨by omega, by omega, ?_⟩), hl5, hc5⟩
    · rw [hg.block b (by omega) (fun e => by have := hvl b e.symm; omega), h3.block b (by omega)]
    · intro e
      rcases hat with ha | ha
      · rw [ha] at e
        have := hvl b e
        omega
      · rw [ha] at e
        injection e with e
        omega
theorem infoStrs7 : (Tryz.prog.info? 30).map (fun i => (i.zero, i.size, i.bytes)) = some (some (.slice none 0 0), 1, 24) := by kernel_rfl
theorem one_slice (A : Option Addr) (n c : Nat) : ∀ u ∈ [Value.slice A n c], u.oneCell' = true := by
  intro u hu
  rw [List.mem_singleton] at hu
  subst hu
  rfl
/-- What Write leaves behind. -/
def WriteOut (o : List (List Str) × Int) (w : World) (e : Ending) (w' : World) : Prop := (∃ v L, L.map (·.1) = o.1 ∧ e = .returned (.tuple #[v, .int .i64 o.2]) ∧ RowsRow w' w.heap.size v L) ∧ Below w.heap.size w w'
theorem RowsRow.low {w : World} {B B' : Nat} {v : Value} {L : List RowA} (h : RowsRow w B v L) (hB : B' ≤ B) : RowsRow w B' v L := by
  refine ⟨?_, fun p hp => ?_⟩
  · refine ⟨h.1.1, ?_⟩
    rcases h.1.2 with k | ⟨g, cap, cur, k1, k2, k3⟩
    · exact .inl k
    · exact .inr ⟨g, cap, cur, k1, by omega, k3⟩
  · obtain ⟨f1, f2, f3⟩ := h.2 p hp
    exact ⟨f1.mono (fun b hb => ⟨by omega, hb.2⟩), f2, f3⟩

end Go.Proofs.YtigdcgklpapfbaaGreatDoor

set_option linter.unusedVariables false
namespace Go.Proofs.YtigdcgklpapfbaaGreatDoor.S10
open Go Go.Proofs Go.RowKit Go.Lib Go.Proofs.YtigdcgklpapfbaaGreatDoor

def writeK (d s b m n : Int) (l : List ClassD) : List (List Str) × Int := if validK d s b m n l ≠ 0 then ([], validK d s b m n l) else (l.map (rowK d s b m n), 0)
theorem goK_ok {d s b m n : Int} : ∀ (l : List ClassD) (K : List Str), goK d s b m n K l = 0 → ∀ r ∈ l, checkM d s b m n r = 0
  | [], _, _, r, hr => by simp at hr
  | x :: xs, K, h, r, hr => by
    unfold goK at h
    by_cases h1 : checkM d s b m n x = 0
    · rw [if_neg (by simpa using h1)] at h
      split at h
      · simp at h
      · rcases List.mem_cons.1 hr with rfl | hr
        · exact h1
        · exact goK_ok xs _ h r hr
    · rw [if_pos h1] at h
      exact absurd h h1
theorem frame_slots {d s b m n : Int} (h : frameB d s b m n = true) : s ≤ 24 := by
  have h1 : gridB d s b m = true := (of_decide_eq_true h).1
  have h2 : GridP d s b m := of_decide_eq_true h1
  exact h2.2.1.2
theorem validK_ok {d s b m n : Int} {l : List ClassD} (h : validK d s b m n l = 0) : l.length ≤ 24 ∧ s ≤ 24 ∧ ∀ r ∈ l, checkM d s b m n r = 0 := by
  unfold validK at h
  split at h
  · simp at h
  · rename_i hf
    split at h
    · simp at h
    · exact ⟨by omega, frame_slots (by simpa using hf), goK_ok l [] h⟩
theorem checkM_ok {d s b m n : Int} {x : ClassD} (hs : s ≤ 24) (h : checkM d s b m n x = 0) : 0 ≤ x.len ∧ x.len ≤ 9999 ∧ 0 ≤ x.seats ∧ x.seats ≤ 9999 ∧ x.pats.length ≤ 8 ∧ x.starts.length ≤ 24 := by
  unfold checkM at h
  split at h
  · simp at h
  split at h
  · simp at h
  rename_i hl
  split at h
  · simp at h
  split at h
  · simp at h
  split at h
  · simp at h
  split at h
  · simp at h
  split at h
  · simp at h
  split at h
  · simp at h
  split at h
  · simp at h
  simp only [Bool.not_eq_false, decide_eq_true_eq] at hl
  refine ⟨by omega, by omega, by omega, by omega, by omega, by omega⟩

set_option maxHeartbeats 16000000 in
set_option maxRecDepth 100000 in
theorem kwrite_any (d s b m n : Int) (A : Option Addr) (l : List ClassD) (c : Nat) (w : World) (h : ClassesIn w (fun k => k < w.heap.size) A l) (hin : ∀ x ∈ l, ∀ t ∈ x.starts, t.2 ≤ 9223372036854775807) (hE : Env7 w) :
    Calls Tryz.prog 8 #[.slice A l.length c, .agg #[.int .i64 d, .int .i64 s, .int .i64 b, .int .i64 m], .int .i64 n] w (WriteOut (writeK d s b m n l) w) := by
  obtain ⟨iS, hiS, hzS, hsS, hbS⟩ := info_parts infoStrs7
  unfold WriteOut writeK
  have hk := K1.first w d s b m 24
  have HK := hid hk
  have HH := hid (fun (w' : World) (hb : Below w.heap.size w w') => h.below hb)
  have HE := hid (fun (w' : World) (hb : Below w.heap.size w w') => hE.below hb (Nat.le_refl _))
  have cV : Hid (∀ w', Below w.heap.size w w' → Calls Tryz.prog 16 #[.slice A l.length c, .agg #[.int .i64 d, .int .i64 s, .int .i64 b, .int .i64 m], .int .i64 n] w' (Says (.int .i64 (validK d s b m n l)) w')) :=
    hid (fun w' hb => kvalid_any d s b m n A l c w' ((h.below hb).mono (fun k hk => Nat.lt_of_lt_of_le hk hb.size)) hin)
  have HIN := hid hin
  clear hin
  have cV' := cV.out
  unfold Says at cV'
  obtain ⟨R, hR⟩ : ∃ R, validK d s b m n l = R := ⟨_, rfl⟩
  rw [hR] at cV' ⊢
  have CV := hid cV'
  clear hk h hE cV cV'
  by_cases hR0 : R = 0
  · subst hR0
    obtain ⟨h16, hs24, hok⟩ := validK_ok hR
    have HS24 := hid hs24
    have HOK := hid hok
    rw [if_neg (by simp)]
    clear hR hok hs24
    go_enter Tryz.func8, Tryz.ntmps8
    go_wp2_with fail
    refine (CV.out _ HK.out.b).mono ?_
    rintro e w1 ⟨rfl, hb⟩
    have HK1 := hid (HK.out.next hb)
    clear hb HK CV
    go_wp2
    go_loopw [9, 11, 21] (fun v _ iv wr => ∃ (i : Nat) (L : List RowA), iv = .int .i64 (i : Int) ∧ i ≤ l.length ∧ Hid (L.map (·.1) = (l.take i).map (rowK d s b m n)) ∧ Hid (RowsRow wr (w.heap.size + 1) v L) ∧ Hid (K1 w d s b m wr)) (fun _ _ iv _ => l.length - (RowKit.intOf iv).toNat)
    case atStart => exact ⟨0, [], rfl, Nat.zero_le _, hid rfl, hid (RowsRow.nil _ _), hid HK1.out⟩
    case round =>
      obtain ⟨i, L, rfl, hi, hL, hrow, hK⟩ := hrel
      obtain ⟨Ar, cr, hvr, _⟩ := hrow.out.rowsIn
      subst hvr
      have hLl : L.length = i := by
        have := congrArg List.length hL.out
        rw [List.length_map, List.length_map, List.length_take] at this
        omega
      have HLL := hid hLl
      clear hLl
      by_cases hlt : i < l.length
      · have hltz : (i : Int) < (l.length : Int) := by omega
        obtain ⟨fb, fo, q, rfl, hfb, hri, hat⟩ := (HH.out _ hK.out.b).at_ hlt
        have hroom := HOK.out _ (List.getElem_mem hlt)
        have hok5 := checkM_ok HS24.out hroom
        have hst : (l.take (i + 1)).map (rowK d s b m n) = L.map (·.1) ++ [rowK d s b m n l[i]] := by rw [hL.out, List.take_succ_eq_append_getElem hlt, List.map_append]; rfl
        have cW : ∀ W, Below wr.heap.size wr W → Calls Tryz.prog 35 #[clsV l[i] q, .agg #[.int .i64 d, .int .i64 s, .int .i64 b, .int .i64 m], .int .i64 n] W (S3.RowOut (rowK d s b m n l[i]) W) :=
          fun W hb => kfields_any d s b m n l[i] q W ((hri.below (hb.mono hK.out.b.size)).mono (fun k hk => Nat.lt_of_lt_of_le hk (Nat.le_trans hK.out.b.size hb.size))) (HIN.out l[i] (List.getElem_mem hlt)) hok5.1 hok5.2.1 hok5.2.2.1 hok5.2.2.2.1 hok5.2.2.2.2.1 hok5.2.2.2.2.2 (HE.out W (hK.out.b.trans (hb.mono hK.out.b.size)))
        obtain ⟨RW, hRW⟩ : ∃ r, rowK d s b m n l[i] = r := ⟨_, rfl⟩
        rw [hRW] at cW hst
        obtain ⟨⟨c0, c1, c2, len, pats, seats, feats, staff, starts⟩, hr⟩ : ∃ r, l[i] = r := ⟨_, rfl⟩
        obtain ⟨aP, cP, aF, cF, aS, cS, aT, cT⟩ := q
        rw [hr] at hat cW
        unfold clsV S3.RowOut at cW
        unfold ClassAt at hat
        dsimp only at hat cW
        obtain ⟨X0, hX0⟩ : ∃ X, ba c0 = X := ⟨_, rfl⟩
        obtain ⟨X1, hX1⟩ : ∃ X, ba c1 = X := ⟨_, rfl⟩
        obtain ⟨X2, hX2⟩ : ∃ X, ba c2 = X := ⟨_, rfl⟩
        obtain ⟨nP, hnP⟩ : ∃ F, pats.length = F := ⟨_, rfl⟩
        obtain ⟨nF, hnF⟩ : ∃ F, feats.length = F := ⟨_, rfl⟩
        obtain ⟨nS, hnS⟩ : ∃ F, staff.length = F := ⟨_, rfl⟩
        obtain ⟨nT, hnT⟩ : ∃ F, starts.length = F := ⟨_, rfl⟩
        rw [hX0, hX1, hX2, hnP, hnF, hnS, hnT] at hat cW
        obtain ⟨y0, y1, y2, y3, y4, y5, y6, y7, y8⟩ := hat
        have hb1 := (Below.refl wr.heap.size wr).alloc (Nat.le_refl _) (.cells #[.string X0, .string X1, .string X2, .int .i64 len, .slice aP nP cP, .int .i64 seats, .slice aF nF cF, .slice aS nS cS, .slice aT nT cT] 33)
        have hK1 := hK.out.next hb1
        obtain ⟨g0, g1, g2, g3, _⟩ := id hK1.x
        have CW := hid (cW _ hb1)
        have HB1 := hid hb1
        have HK2 := hid hK1
        have HST := hid hst
        clear hr hRW hX0 hX1 hX2 hnP hnF hnS hnT hok5 hb1 hK1 cW hst hri hroom hfb
        go_wp2_with fail
        generalize wr.alloc (.cells #[.string X0, .string X1, .string X2, .int .i64 len, .slice aP nP cP, .int .i64 seats, .slice aF nF cF, .slice aS nS cS, .slice aT nT cT] 33) = w1 at HB1 HK2 CW g0 g1 g2 g3 ⊢
        refine CW.out.mono ?_
        rintro e w2 ⟨⟨vi, rfl, hrowi⟩, hb2⟩
        obtain ⟨Ai, ci, rfl, hl5, hc5, _⟩ := hrowi.strsIn
        have HB2 := hid hb2
        have HK3 := hid (HK2.out.next hb2)
        have HRowi := hid hrowi
        have hrow2 : w2.ownsRow (w.heap.size + 1) 30 1 (.slice Ar L.length cr) L.length (L.map rowV) := row_under (row_under hrow.out.1 HB1.out) HB2.out
        have HRow2 := hid hrow2
        have HC3 : Hid (L.length + 1 ≤ maxLen) := by unfold maxLen; exact hid (by have := HLL.out; omega)
        have HC4 : Hid ((L.length + 1) * 24 ≤ 140737488355328) := hid (by have := HLL.out; omega)
        have HC5 : Hid (∀ o : Obj, w.heap.size + 1 ≤ (w2.alloc o).heap.size) := hid (fun o => by have := HK3.out.x.lt; simp; omega)
        clear hb2 hrowi hrow2 g0 g1 g2 g3 y0 y1 y2 y3 y4 y5 y6 y7 y8 hl5 hc5
        go_wp2_with (at_builtin; refine wpList_append_own_at _ rfl _ _ 25 rfl (w.heap.size + 1) 30 iS (.slice none 0 0) 1 24 Tryz.underlying25 hiS hzS hsS hbS rfl (by decide) _ L.length (L.map rowV) rfl (World.ownsRow.alloc HRow2.out _) ⟨w2.heap.size, 0, none⟩ 1 1 [.slice Ai RW.length ci] rfl rfl (one_new _ _ _) (one_slice _ _ _) HC3.out HC4.out (HC5.out _) ?_)
        intro v' w4 hown' hgrow _ hat
        have hsn := RowsRow.snoc hrow.out (by have := HK2.out.x.lt; omega) HB1.out HB2.out HRowi.out ((Below.refl w2.heap.size w2).alloc (Nat.le_refl _) _) hown' hgrow (hat.imp id (fun h => h.trans (by simp)))
        have hg' := grownBy_of_alloc hgrow
        have hb24 : Below w.heap.size w2 w4 := (Below.refl _ w2).grown hg' HK3.out.b.size (fun k hk => by have := (World.ownsRow.lt HRow2.out k hk).1; omega)
        have hx4 : Box4 w4 w.heap.size d s b m := by
          have kc : ∀ o : Nat, w4.cell? ⟨w.heap.size, o, none⟩ = w2.cell? ⟨w.heap.size, o, none⟩ := fun o => World.cell?_of_block (w := w2) (hg'.block _ HK3.out.x.lt (fun e => by have := (World.ownsRow.lt HRow2.out _ e.symm).1; have e2 : w.heap.size + 1 ≤ w.heap.size := this; omega))
          have hx := HK3.out.x
          exact ⟨(kc 0).trans hx.c0, (kc 1).trans hx.c1, (kc 2).trans hx.c2, (kc 3).trans hx.c3, Nat.lt_of_lt_of_le hx.lt hg'.size⟩
        have HK4 : Hid (K1 w d s b m w4) := hid ⟨hx4, HK3.out.b.trans hb24⟩
        have HSN := hid hsn
        have HL2 : Hid ((L ++ [(RW, Ai, ci)]).map (·.1) = (l.take (i + 1)).map (rowK d s b m n)) := hid (by rw [HST.out, List.map_append]; rfl)
        clear hx4 hb24 hg' hgrow hown' hsn hat
        go_wp2_with fail
        go_roundw
        case rel => exact ⟨i + 1, L ++ [(RW, Ai, ci)], by go_num, by omega, HL2, HSN, HK4⟩
        case measure => simp [RowKit.intOf]; omega
      · have hltz : ¬ (i : Int) < (l.length : Int) := by omega
        have hL2 : Hid (L.map (·.1) = l.map (rowK d s b m n)) := hid (by rw [hL.out, List.take_of_length_le (by omega)])
        go_wp2
        go_ret2
        exact ⟨⟨_, L, hL2.out, rfl, hrow.out.low (by omega)⟩, hK.out.b⟩
  · have hR1 : (R != 0) = true := by simpa using hR0
    have hR2 : (R == 0) = false := by simpa using hR0
    rw [if_pos hR0]
    clear hR
    go_enter Tryz.func8, Tryz.ntmps8
    go_wp2_with fail
    refine (CV.out _ HK.out.b).mono ?_
    rintro e w1 ⟨rfl, hb⟩
    have HK1 := hid (HK.out.next hb)
    clear hb HK CV
    go_wp2
    go_ret2
    exact ⟨⟨_, [], rfl, rfl, RowsRow.nil _ _⟩, HK1.out.b⟩
end Go.Proofs.YtigdcgklpapfbaaGreatDoor.S10

set_option linter.unusedVariables false
namespace Go.Proofs.YtigdcgklpapfbaaGreatDoor.S10
open Go Go.Proofs Go.RowKit Go.Lib Go.Proofs.YtigdcgklpapfbaaGreatDoor

theorem dec2_digits (u : Nat) (h : u < 100) : dec2 u = decDigits u := by
  by_cases h1 : u < 10
  · rw [decDigits_one h1]
    unfold dec2
    rw [if_pos h1]
  · rw [dd_step u h1, decDigits_one (show u / 10 < 10 by omega), decDigits_one (show u % 10 < 10 by omega)]
    unfold dec2
    rw [if_neg h1]
    rfl
/-- The text of a start that fits. -/
theorem startS_eq {d s b m len : Int} {t : StartD} (h0 : fitS d s b m len t = true) : ∃ y u : Nat, t = ((y : Int), (u : Int)) ∧ y < 7 ∧ u < 24 ∧ startS d s b m t = dayS y ++ 32 :: decDigits (u + 1) := by
  have h1 : fitsM d s b m 1 1 t.1 t.2 len = 0 := of_decide_eq_true h0
  unfold fitsM at h1
  by_cases hf : frameB d s b m 1 = true
  · rw [if_pos hf] at h1
    by_cases hc : soundB 1 t.1 t.2 len = true ∧ validM 1 1 = true ∧ t.1 < d ∧ t.2 + len ≤ s
    · obtain ⟨k1, k2, k3, k4⟩ := hc
      obtain ⟨j1, ⟨j2, j3⟩, j4, j5, j6⟩ := sound_of k1
      have hS : soundB 1 t.1 t.2 1 = true := decide_eq_true ⟨j1, ⟨j2, j3⟩, j4, by omega, by omega⟩
      have hF : fitsM d s b m 1 1 t.1 t.2 1 = 0 := by
        unfold fitsM
        rw [if_pos hf, if_pos ⟨hS, k2, k3, by omega⟩]
      obtain ⟨ty, tu⟩ := t
      dsimp only at *
      refine ⟨ty.toNat, tu.toNat, by rw [Int.toNat_of_nonneg j2, Int.toNat_of_nonneg j4], by omega, by omega, ?_⟩
      unfold startS timeS textT
      dsimp only
      rw [if_pos hF]
      unfold timeT
      dsimp only
      have e1 : (1 : Int).toNat = 1 := rfl
      rw [e1]
      have hall : formN 1 1 = [97, 108, 108] := by decide
      rw [if_pos hall]
      unfold itemT
      rw [if_pos rfl, dec2_digits _ (by omega), List.append_nil]
    · rw [if_neg hc] at h1
      simp at h1
  · rw [if_neg hf] at h1
    simp at h1
end Go.Proofs.YtigdcgklpapfbaaGreatDoor.S10

set_option linter.unusedVariables false
namespace Go.Proofs.YtigdcgklpapfbaaGreatDoor
open Go Go.Proofs Go.RowKit Go.Lib

def rollV (L : List Int) (k : Nat) (n : Int) : Int := match L[k]? with | some v => modI v n | none => 0
def rollK (L : List Int) (k : Nat) : Nat := if k < L.length then k + 1 else k
theorem rollV_range (L : List Int) (k : Nat) (n : Int) (h : 1 ≤ n) : 0 ≤ rollV L k n ∧ rollV L k n < n := by
  unfold rollV
  split
  · exact modI_range _ n h
  · omega

set_option maxHeartbeats 2000000 in
set_option maxRecDepth 100000 in
theorem next_at (g c k : Nat) (A : Option Addr) (L : List Int) (n : Int) (hn : n ≤ 4294967296) (w : World) (h : DiceAt w g A L c k) :
    Calls Tryz.prog 26 #[.pointer (some ⟨g, 0, none⟩), .int .i64 n] w fun e w' => e = .returned (.int .i64 (rollV L k n)) ∧ DiceAt w' g A L c (rollK L k) ∧ Rolled g w w' := by
  have h0 := h.list
  have h1 := h.at_
  have hle := h.le
  have hfew := h.few
  have H := hid h
  clear h
  by_cases hk : k < L.length
  · obtain ⟨v, hv⟩ : ∃ v, L[k]? = some v := ⟨_, List.getElem?_eq_getElem hk⟩
    have hr1 : rollV L k n = modI v n := by unfold rollV; rw [hv]
    have hr2 : rollK L k = k + 1 := if_pos hk
    rw [hr1, hr2]
    have HV := hid hv
    clear hr1 hr2 hv
    have hkz : ¬ (L.length : Int) ≤ (k : Int) := by omega
    have hkb : decide (L.length ≤ k) = false := decide_eq_false (by omega)
    go_enter Tryz.func26, Tryz.ntmps26
    go_wp2
    go_quiet (fail)
    have hD := H.out.drawn nq
    have hR := Rolled.drawn g w nq
    generalize w.drewN nq = w1 at hD hR ⊢
    clear h0 h1 H
    have h0 := hD.list
    have h1 := hD.at_
    have hf := hD.free 1
    have hD2 := hD.next hk
    have hR2 := hR.trans (Rolled.set g 1 w1 (.int .i64 ((k : Int) + 1)))
    have HD2 := hid hD2
    have HR2 := hid hR2
    clear hD hR hD2 hR2
    go_wp2
    have hD := HD2.out
    have hR := HR2.out
    clear HD2 HR2 h0 h1 hf
    generalize w1.setCell ⟨g, 1, none⟩ (.int .i64 ((k : Int) + 1)) = w2 at hD hR ⊢
    have h0 := hD.list
    have h1 := hD.at_
    rw [show (((k + 1 : Nat)) : Int) = (k : Int) + 1 by omega] at h1
    obtain ⟨b, off, rfl, hc⟩ : ∃ b off, A = some ⟨b, off, none⟩ ∧ w2.cell? ⟨b, off + k, none⟩ = some (.int .i64 v) := by
      rcases hD.ints with h' | ⟨b, off, hA, _, hc⟩
      · rw [h'] at hk; simp at hk
      · exact ⟨b, off, hA, hc k v HV.out⟩
    have HD := hid hD
    have HR := hid hR
    clear hD hR
    go_quiet ((go_at_call 34; with_reducible refine Calls.quiet_of_same ((mod_any v n hn _).mono fun _ _ h => ⟨h.1, h.2.symm⟩)))
    go_wp2
    go_ret
    exact ⟨rfl, HD.out.drawn nq, HR.out.trans (Rolled.drawn g w2 nq)⟩
  · have hr1 : rollV L k n = 0 := by
      unfold rollV
      rw [List.getElem?_eq_none (by omega)]
    have hr2 : rollK L k = k := if_neg hk
    rw [hr1, hr2]
    clear hr1 hr2
    have hkz : (L.length : Int) ≤ (k : Int) := by omega
    have hkb : decide (L.length ≤ k) = true := decide_eq_true (by omega)
    go_enter Tryz.func26, Tryz.ntmps26
    go_wp2
    go_quiet (fail)
    go_wp2
    go_ret
    exact ⟨rfl, H.out.drawn nq, Rolled.drawn g w nq⟩
end Go.Proofs.YtigdcgklpapfbaaGreatDoor

set_option linter.unusedVariables false
namespace Go.Proofs.YtigdcgklpapfbaaGreatDoor
open Go Go.Proofs Go.RowKit Go.Lib

/-- The dice lie there, and but for them all that was there is as it was. -/
structure DE (w0 : World) (g c : Nat) (A : Option Addr) (L : List Int) (k : Nat) (w : World) : Prop where
  d : DiceAt w g A L c k
  p : Played w0.heap.size g w0 w
section
variable {w0 w w' : World} {g c k k' : Nat} {A : Option Addr} {L : List Int}
theorem DE.first (h : DiceAt w g A L c k) : DE w g c A L k w := ⟨h, Played.refl _ _ _⟩
theorem DE.alloc (h : DE w0 g c A L k w) (o : Obj) : DE w0 g c A L k (w.alloc o) :=
  ⟨h.d.below (Below.alloc (Below.refl _ _) (Nat.le_refl _) o) h.d.lt, h.p.below (Below.alloc (Below.refl _ _) h.p.size o)⟩
theorem DE.set (h : DE w0 g c A L k w) (b o : Nat) (v : Value) (hb : w0.heap.size ≤ b) (hg : g < b) : DE w0 g c A L k (w.setCell ⟨b, o, none⟩ v) :=
  ⟨h.d.below (B := b) ((Below.refl b w).setCell (p := ⟨b, o, none⟩) (Nat.le_refl _) v) hg, h.p.below ((Below.refl _ w).setCell (p := ⟨b, o, none⟩) hb v)⟩
theorem DE.next (h : DE w0 g c A L k w) (hd : DiceAt w' g A L c k') (hr : Rolled g w w') : DE w0 g c A L k' w' := ⟨hd, h.p.rolled hr⟩
theorem DE.below (h : DE w0 g c A L k w) (hb : Below w0.heap.size w w') (hg : g < w0.heap.size) : DE w0 g c A L k w' := ⟨h.d.below hb hg, h.p.below hb⟩
end
theorem Rolled.cells {g : Nat} {w w' : World} (h : Rolled g w w') : ∀ b o, b ≠ g → w'.cell? ⟨b, o, none⟩ = w.cell? ⟨b, o, none⟩ := fun b o hb => World.cell?_of_block (w := w) (h.block b hb)
theorem results_c {fn : Func} {p : Tmp} {A : TypeId} (h : fn.results = #[.cell p A]) (tmps : Array Value) (P : Program) (w : World) (a : Addr) (va : Value)
    (ha : tmps.getD p undef = .pointer (some a)) (hla : (loadVar A a).run P w = .ok va w) : (results fn tmps).run P w = .ok va w := by
  rw [Array.getD_eq_getD_getElem?] at ha
  simp only [results, h]
  simp [ha, hla, asAddr]
theorem cells_free {w : World} {b : Nat} {cs : Array Value} {t : TypeId} (h : w.heap[b]? = some (.cells cs t (0, 0))) (j : Nat) : w.frozen? ⟨b, j, none⟩ = false := by simp [World.frozen?, h]
end Go.Proofs.YtigdcgklpapfbaaGreatDoor

set_option linter.unusedVariables false
namespace Go.Proofs.YtigdcgklpapfbaaGreatDoor.S10
open Go Go.Proofs Go.RowKit Go.Lib Go.Proofs.YtigdcgklpapfbaaGreatDoor

/-- What stands while strings are picked. -/
structure SP (w0 : World) (g c : Nat) (A : Option Addr) (L : List Int) (ss : List Str) (v : Value) (w : World) : Prop where
  e : ∃ k, DE w0 g c A L k w
  r : S3.StrRow w w0.heap.size v ss
  g0 : g < w0.heap.size
section
variable {w0 w w' : World} {g c : Nat} {A : Option Addr} {L : List Int} {ss : List Str} {v v' : Value}
theorem SP.roll {k' : Nat} (h : SP w0 g c A L ss v w) (hd : DiceAt w' g A L c k') (hr : Rolled g w w') : SP w0 g c A L ss v w' := by
  obtain ⟨k, h0⟩ := h.e
  have hg := h.g0
  exact ⟨⟨k', h0.next hd hr⟩, hr.row h.r (fun e => by have h1 := World.ownsRow.lt h.r g e; omega), hg⟩
theorem SP.app {t : Str} (h : SP w0 g c A L ss v w) (hg : w.grownBy w' v.ownBlock) (hr : S3.StrRow w' w0.heap.size v' (ss ++ [t])) : SP w0 g c A L (ss ++ [t]) v' w' := by
  obtain ⟨k, h0⟩ := h.e
  have hb : Below w0.heap.size w w' := (Below.refl _ w).grown hg h0.p.size (fun k hk => (World.ownsRow.lt h.r k hk).1)
  exact ⟨⟨k, h0.below hb h.g0⟩, hr, h.g0⟩
end
theorem SP.first {w : World} {g c k : Nat} {A : Option Addr} {L : List Int} (h : DiceAt w g A L c k) : SP w g c A L [] (.slice none 0 0) w :=
  ⟨⟨k, DE.first h⟩, World.ownsRow_nil _ _ _ _, h.lt⟩
/-- What some hands back. -/
def SomeP (l : List Str) (g c : Nat) (A : Option Addr) (L : List Int) (w0 : World) (e : Ending) (w' : World) : Prop :=
  ∃ (ss : List Str) (v : Value) (k' : Nat), e = .returned v ∧ ss.Sublist l ∧ S3.StrRow w' w0.heap.size v ss ∧ DE w0 g c A L k' w'
theorem strs_at {w : World} {P : Nat → Prop} {A : Option Addr} {l : List Str} (h : S3.StrsIn w P A l) {k : Nat} (hk : k < l.length) : ∃ b off, A = some ⟨b, off, none⟩ ∧ P b ∧ w.cell? ⟨b, off + k, none⟩ = some (.string (ba l[k])) := by
  rcases h with h | ⟨b, off, hA, hP, hc⟩
  · subst h; simp at hk
  · exact ⟨b, off, hA, hP, hc k _ (List.getElem?_eq_getElem hk)⟩
set_option maxHeartbeats 16000000 in
set_option maxRecDepth 100000 in
theorem some_any (g c k : Nat) (A : Option Addr) (L : List Int) (n : Int) (hn1 : 1 ≤ n) (hn : n ≤ 100) (As : Option Addr) (l : List Str) (cs : Nat) (w : World) (h : DiceAt w g A L c k) (hs : S3.StrsIn w (fun b => b < w.heap.size ∧ b ≠ g) As l) (hl : l.length ≤ 100) :
    Calls Tryz.prog 62 #[.pointer (some ⟨g, 0, none⟩), .slice As l.length cs, .int .i64 n] w (SomeP l g c A L w) := by
  obtain ⟨i9, hi9, hz9, hsi9, hby9⟩ := info_parts S3.infoStr
  have H0 := hid (SP.first h)
  have HO := hid (fun (W : World) k (h : DiceAt W g A L c k) => one_any g c k A L n (by omega) hn1 W h)
  have HS := hid hs
  clear h hs
  go_enter Tryz.func62, Tryz.ntmps62
  go_wp2
  go_loopw [7, 8] (fun v iv wr => ∃ (i : Nat) (ss : List Str) (Ar : Option Addr) (cr : Nat), v = .slice Ar ss.length cr ∧ iv = .int .i64 (i : Int) ∧ i ≤ l.length ∧ ss.length ≤ i ∧ Hid (ss.Sublist (l.take i)) ∧ Hid (SP w g c A L ss (.slice Ar ss.length cr) wr)) (fun _ iv _ => l.length - (RowKit.intOf iv).toNat)
  case atStart => exact ⟨0, [], none, 0, rfl, rfl, Nat.zero_le _, Nat.le_refl _, hid (List.nil_sublist _), H0⟩
  case round =>
    obtain ⟨i, ss, Ar, cr, rfl, rfl, hi, hsi, hsub, hP⟩ := hrel
    by_cases hlt : i < l.length
    · have hltz : (i : Int) < (l.length : Int) := by omega
      have dk : decide (l.length ≤ i) = false := decide_eq_false (by omega)
      obtain ⟨k2, he2⟩ := hP.out.e
      have cO := hid (HO.out _ _ he2.d)
      obtain ⟨b, off, rfl, hb, hc⟩ := strs_at HS.out hlt
      have hcr : Hid (wr.cell? ⟨b, off + i, none⟩ = some (.string (ba l[i]))) := hid ((World.cell?_of_block (w := w) (he2.p.block b hb.1 hb.2)).trans hc)
      have hbg := hb.2
      clear he2 hb hc
      have hsubn : Hid (ss.Sublist (l.take (i + 1)) ∧ (ss ++ [l[i]]).Sublist (l.take (i + 1))) := hid (by
        rw [List.take_succ_eq_append_getElem hlt]
        exact ⟨hsub.out.trans (List.sublist_append_left _ _), hsub.out.append (List.Sublist.refl _)⟩)
      obtain ⟨X, hX⟩ : ∃ X, l[i] = X := ⟨_, rfl⟩
      rw [hX] at hcr hsubn
      clear hX
      go_wp2_with fail
      refine cO.out.mono ?_
      rintro e w2 ⟨⟨r, rfl⟩, ⟨k3, hd⟩, hR⟩
      have HP2 := hid (hP.out.roll hd hR)
      have hc2 : w2.cell? ⟨b, off + i, none⟩ = some (.string (ba X)) := (hR.cells b _ hbg).trans hcr.out
      clear hd hR hP cO hcr
      cases r with
      | true =>
        have HC3 : Hid (ss.length + 1 ≤ maxLen) := by unfold maxLen; exact hid (by omega)
        have HC4 : Hid ((ss.length + 1) * 16 ≤ 140737488355328) := hid (by omega)
        have HC5 : Hid (∀ o : Obj, w.heap.size ≤ (w2.alloc o).heap.size) := hid (fun o => by obtain ⟨k, h0⟩ := HP2.out.e; have := h0.p.size; simp; omega)
        go_wp2_with (at_builtin; refine wpList_append_own _ rfl _ _ 30 rfl w.heap.size 9 i9 (.string ⟨#[]⟩) 1 16 Tryz.underlying30 hi9 hz9 hsi9 hby9 rfl (by decide) _ ss.length (S3.strVals ss) rfl (World.ownsRow.alloc HP2.out.r _) ⟨w2.heap.size, 0, none⟩ 1 1 [.string (ba X)] rfl rfl (one_new _ _ _) (S3.one_str _) HC3.out HC4.out (HC5.out _) ?_)
        intro v' w4 hown' hgrow _
        have hg' := grownBy_of_alloc hgrow
        obtain ⟨A6, c6, rfl⟩ := S3.row_slice hown'
        have hrow6 : S3.StrRow w4 w.heap.size (.slice A6 (ss.length + 1) c6) (ss ++ [X]) := by
          unfold S3.StrRow
          rw [S3.strVals_app, List.length_append]
          exact hown'
        have HT4 := hid (HP2.out.app hg' hrow6)
        clear hown' hgrow hg' hrow6 HP2 HC3 HC4 HC5 hc2
        go_wp2
        go_roundw
        case rel => exact ⟨i + 1, ss ++ [X], A6, c6, by simp, by go_num, by omega, by simp; omega, hid hsubn.out.2, hid (by have := HT4.out; simpa using this)⟩
        case measure => simp [RowKit.intOf]; omega
      | false =>
        clear hc2
        go_wp2
        go_roundw
        case rel => exact ⟨i + 1, ss, Ar, cr, rfl, by go_num, by omega, by omega, hid hsubn.out.1, HP2⟩
        case measure => simp [RowKit.intOf]; omega
    · have hltz : ¬ (i : Int) < (l.length : Int) := by omega
      obtain ⟨k2, he2⟩ := hP.out.e
      have HR : Hid (SomeP l g c A L w (.returned (.slice Ar ss.length cr)) wr) := hid ⟨ss, _, k2, rfl, by have := hsub.out; rwa [List.take_of_length_le (by omega)] at this, hP.out.r, he2⟩
      clear he2 hP
      go_wp2
      go_ret
      exact HR.out
end Go.Proofs.YtigdcgklpapfbaaGreatDoor.S10

set_option linter.unusedVariables false
namespace Go.Proofs.YtigdcgklpapfbaaGreatDoor
open Go Go.Proofs Go.RowKit Go.Lib

/-- What Set hands back. -/
def SetP (n : Nat) (g c : Nat) (A : Option Addr) (L : List Int) (w0 : World) (e : Ending) (w' : World) : Prop :=
  (∃ S : Int, e = .returned (.int .i64 S) ∧ 1 ≤ S ∧ S < 2 ^ n) ∧ (∃ k', DiceAt w' g A L c k') ∧ Rolled g w0 w'
theorem set_ofInt (a : Nat) (ha : a < 9223372036854775808) : (BitVec.ofInt 64 (a : Int)).toNat = a := by
  rw [BitVec.ofInt_natCast, BitVec.toNat_ofNat]; exact Nat.mod_eq_of_lt (by omega)
theorem set_and (a b : Nat) (ha : a < 9223372036854775808) (hb : b < 9223372036854775808) : bits .and .i64 (a : Int) (b : Int) = ((a &&& b : Nat) : Int) := by
  have hx : a &&& b < 2 ^ 63 := Nat.and_lt_two_pow _ (by omega)
  show IntKind.i64.wrap ((BitVec.ofInt 64 (a : Int) &&& BitVec.ofInt 64 (b : Int)).toNat : Int) = _
  rw [BitVec.toNat_and, set_ofInt a ha, set_ofInt b hb, IntKind.wrap_i64]
  omega
theorem set_odd : ∀ n : Fin 21, 1 ≤ n.val → 1 ≤ 349525 &&& (2 ^ n.val - 1) ∧ 349525 &&& (2 ^ n.val - 1) < 2 ^ n.val := by decide
theorem set_odd' (n : Nat) (h1 : 1 ≤ n) (h2 : n ≤ 20) : ∃ v : Int, bits .and .i64 349525 ((2 : Int) ^ n - 1) = v ∧ 1 ≤ v ∧ v < 2 ^ n := by
  obtain ⟨a, b⟩ := set_odd ⟨n, by omega⟩ h1
  simp only at a b
  have hp : 2 ^ n ≤ 2 ^ 20 := Nat.pow_le_pow_right (by omega) h2
  have hp1 : 0 < 2 ^ n := Nat.two_pow_pos n
  have e : (2 : Int) ^ n - 1 = ((2 ^ n - 1 : Nat) : Int) := by
    rw [Int.natCast_sub (by omega), Int.natCast_pow]
    rfl
  refine ⟨_, rfl, ?_, ?_⟩
  · rw [e, show (349525 : Int) = ((349525 : Nat) : Int) by rfl, set_and _ _ (by omega) (by omega)]
    omega
  · rw [e, show (349525 : Int) = ((349525 : Nat) : Int) by rfl, set_and _ _ (by omega) (by omega)]
    rw [show (2 : Int) ^ n = ((2 ^ n : Nat) : Int) by rw [Int.natCast_pow]; rfl]
    omega

set_option maxHeartbeats 4000000 in
set_option maxRecDepth 100000 in
theorem set_any (n : Nat) (h1 : 1 ≤ n) (h2 : n ≤ 20) (g c k : Nat) (A : Option Addr) (L : List Int) (w : World) (h : DiceAt w g A L c k) :
    Calls Tryz.prog 94 #[.pointer (some ⟨g, 0, none⟩), .int .i64 (n : Int)] w (SetP n g c A L w) := by
  have HN := hid (fun (W : World) k n hn (h : DiceAt W g A L c k) => next_at g c k A L n hn W h)
  have HD := hid h
  have hp : (2 : Int) ^ n ≤ 1048576 := by
    have : 2 ^ n ≤ 2 ^ 20 := Nat.pow_le_pow_right (by omega) h2
    have e : (2 : Int) ^ n = ((2 ^ n : Nat) : Int) := by rw [Int.natCast_pow]; rfl
    omega
  have hp2 : (2 : Int) ≤ 2 ^ n := by
    have : 2 ^ 1 ≤ 2 ^ n := Nat.pow_le_pow_right (by omega) h1
    have e : (2 : Int) ^ n = ((2 ^ n : Nat) : Int) := by rw [Int.natCast_pow]; rfl
    omega
  obtain ⟨V, hV, hV1, hV2⟩ := set_odd' n h1 h2
  clear h
  go_enter Tryz.func94, Tryz.ntmps94
  go_wp2_with fail
  refine (HN.out _ _ _ (by omega) HD.out).mono ?_
  rintro e w2 ⟨rfl, hd2, hR2⟩
  obtain ⟨r, hr⟩ : ∃ r, rollV L k 4 = r := ⟨_, rfl⟩
  rw [hr]
  have HD2 := hid hd2
  have HR2 := hid hR2
  clear hr hd2 hR2
  by_cases e0 : r = 0
  · subst e0
    go_wp2_with fail
    go_ret
    exact ⟨⟨2 ^ n - 1, rfl, by omega, by omega⟩, ⟨_, HD2.out⟩, HR2.out⟩
  · have e0' : (r == 0) = false := by simpa using e0
    by_cases e1 : r = 1
    · subst e1
      go_wp2_with fail
      go_ret
      exact ⟨⟨V, rfl, hV1, hV2⟩, ⟨_, HD2.out⟩, HR2.out⟩
    · have e1' : (r == 1) = false := by simpa using e1
      clear e0 e1
      go_wp2_with fail
      refine (HN.out _ _ _ (by omega) HD2.out).mono ?_
      rintro e w3 ⟨rfl, hd3, hR3⟩
      obtain ⟨q, hq⟩ : ∃ q, rollV L (rollK L k) (2 ^ n - 1) = q := ⟨_, rfl⟩
      have hqq := rollV_range L (rollK L k) (2 ^ n - 1) (by omega)
      rw [hq] at hqq ⊢
      have HD3 := hid hd3
      have HR3 := hid (HR2.out.trans hR3)
      clear hq hd3 hR3
      go_wp2_with fail
      go_ret
      exact ⟨⟨1 + q, rfl, by omega, by omega⟩, ⟨_, HD3.out⟩, HR3.out⟩
end Go.Proofs.YtigdcgklpapfbaaGreatDoor

set_option linter.unusedVariables false
namespace Go.Proofs.YtigdcgklpapfbaaGreatDoor
open Go Go.Proofs Go.RowKit Go.Lib

/-- Four numbers lie in a block that may be written. -/
def Cells4 (t : TypeId) (w : World) (B : Nat) (a b x d : Int) : Prop := w.heap[B]? = some (.cells #[.int .i64 a, .int .i64 b, .int .i64 x, .int .i64 d] t (0, 0))
section
variable {T : TypeId} {w w' : World} {B : Nat} {a b x d : Int}
theorem Cells4.box (h : Cells4 T w B a b x d) : Box4 w B a b x d := by
  unfold Cells4 at h
  refine ⟨?_, ?_, ?_, ?_, (Array.getElem?_eq_some_iff.1 h).1⟩
  all_goals (rw [Lib.cell_of_heap h]; rfl)
theorem Cells4.free (h : Cells4 T w B a b x d) (j : Nat) : w.frozen? ⟨B, j, none⟩ = false := cells_free h j
theorem Cells4.lt (h : Cells4 T w B a b x d) : B < w.heap.size := (Array.getElem?_eq_some_iff.1 h).1
theorem Cells4.under (h : Cells4 T w B a b x d) (k : Below w.heap.size w w') : Cells4 T w' B a b x d := (k.block _ h.lt).trans h
theorem Cells4.roll {g : Nat} (h : Cells4 T w B a b x d) (k : Rolled g w w') (hg : B ≠ g) : Cells4 T w' B a b x d := (k.block _ hg).trans h
theorem Cells4.other (h : Cells4 T w B a b x d) (R j : Nat) (v : Value) (hR : B ≠ R) : Cells4 T (w.setCell ⟨R, j, none⟩ v) B a b x d := (Below.heap_setCell w ⟨R, j, none⟩ v B (by show B ≠ R; exact hR)).trans h
theorem Cells4.set0 (h : Cells4 T w B a b x d) (v : Int) : Cells4 T (w.setCell ⟨B, 0, none⟩ (.int .i64 v)) B v b x d := by unfold Cells4; rw [heap_setCell_same w B 0 _ _ _ h]; rfl
theorem Cells4.set1 (h : Cells4 T w B a b x d) (v : Int) : Cells4 T (w.setCell ⟨B, 1, none⟩ (.int .i64 v)) B a v x d := by unfold Cells4; rw [heap_setCell_same w B 1 _ _ _ h]; rfl
theorem Cells4.set2 (h : Cells4 T w B a b x d) (v : Int) : Cells4 T (w.setCell ⟨B, 2, none⟩ (.int .i64 v)) B a b v d := by unfold Cells4; rw [heap_setCell_same w B 2 _ _ _ h]; rfl
theorem Cells4.set3 (h : Cells4 T w B a b x d) (v : Int) : Cells4 T (w.setCell ⟨B, 3, none⟩ (.int .i64 v)) B a b x v := by unfold Cells4; rw [heap_setCell_same w B 3 _ _ _ h]; rfl
theorem Cells4.all (h : Cells4 T w B a b x d) (v0 v1 v2 v3 : Int) : Cells4 T ((((w.setCell ⟨B, 0, none⟩ (.int .i64 v0)).setCell ⟨B, 1, none⟩ (.int .i64 v1)).setCell ⟨B, 2, none⟩ (.int .i64 v2)).setCell ⟨B, 3, none⟩ (.int .i64 v3)) B v0 v1 v2 v3 :=
  (((h.set0 v0).set1 v1).set2 v2).set3 v3
end
theorem Cells4.new (w : World) (a b x d : Int) (T : TypeId) : Cells4 T (w.alloc (.cells #[.int .i64 a, .int .i64 b, .int .i64 x, .int .i64 d] T)) w.heap.size a b x d := heap_alloc_new w _
theorem load_grid {w : World} {B : Nat} {a b x d : Int} (h : Cells4 24 w B a b x d) : (loadVar 24 ⟨B, 0, none⟩).run Tryz.prog w = .ok (.agg #[.int .i64 a, .int .i64 b, .int .i64 x, .int .i64 d]) w := by
  obtain ⟨h0, h1, h2, h3, _⟩ := h.box
  simp [loadVar, go_sem, h0, h1, h2, h3]
theorem load_time {w : World} {B : Nat} {a b x d : Int} (h : Cells4 66 w B a b x d) : (loadVar 66 ⟨B, 0, none⟩).run Tryz.prog w = .ok (.agg #[.int .i64 a, .int .i64 b, .int .i64 x, .int .i64 d]) w := by
  obtain ⟨h0, h1, h2, h3, _⟩ := h.box
  simp [loadVar, go_sem, h0, h1, h2, h3]
theorem DE.trans {w0 w1 w2 : World} {g c k k' : Nat} {A : Option Addr} {L : List Int} (h : DE w0 g c A L k w1) (h' : DE w1 g c A L k' w2) : DE w0 g c A L k' w2 := ⟨h'.d, h.p.trans h'.p h.p.size⟩
theorem DE.toBelow {w0 w1 : World} {g c k B : Nat} {A : Option Addr} {L : List Int} (h : DE w0 g c A L k w1) (h1 : B ≤ w0.heap.size) (h2 : B ≤ g) : Below B w0 w1 := h.p.toBelow h1 h2

/-- A grid as it is made. -/
def MadeG (d s b m : Int) : Prop := (1 ≤ d ∧ d ≤ 5) ∧ (2 ≤ s ∧ s ≤ 8) ∧ (480 ≤ b ∧ b ≤ 585) ∧ (30 ≤ m ∧ m ≤ 60)
/-- What a function that makes a struct of four numbers hands back. -/
def FourP (ok : Int → Int → Int → Int → Prop) (g c : Nat) (A : Option Addr) (L : List Int) (w0 : World) (e : Ending) (w' : World) : Prop :=
  ∃ a b x d k', e = .returned (.agg #[.int .i64 a, .int .i64 b, .int .i64 x, .int .i64 d]) ∧ ok a b x d ∧ DE w0 g c A L k' w'
/-- A block of the call's own, and the dice. -/
structure R1 (T : TypeId) (w0 : World) (g c : Nat) (A : Option Addr) (L : List Int) (k : Nat) (w : World) : Prop where
  e : DE w0 g c A L k w
  r : Cells4 T w w0.heap.size 0 0 0 0
  g0 : g < w0.heap.size
theorem R1.roll {T : TypeId} {w0 w w' : World} {g c k k' : Nat} {A : Option Addr} {L : List Int} (h : R1 T w0 g c A L k w) (hd : DiceAt w' g A L c k') (hr : Rolled g w w') : R1 T w0 g c A L k' w' :=
  ⟨h.e.next hd hr, h.r.roll hr (by have := h.g0; omega), h.g0⟩
theorem R1.first {w : World} {g c k : Nat} {A : Option Addr} {L : List Int} (h : DiceAt w g A L c k) (T : TypeId) : R1 T w g c A L k (w.alloc (.cells #[.int .i64 0, .int .i64 0, .int .i64 0, .int .i64 0] T)) :=
  ⟨(DE.first h).alloc _, Cells4.new w 0 0 0 0 T, h.lt⟩
set_option maxHeartbeats 4000000 in
set_option maxRecDepth 100000 in
theorem grid_any (g c k : Nat) (A : Option Addr) (L : List Int) (w : World) (h : DiceAt w g A L c k) : Calls Tryz.prog 25 #[.pointer (some ⟨g, 0, none⟩)] w (FourP MadeG g c A L w) := by
  have HN := hid (fun (W : World) k n hn (h : DiceAt W g A L c k) => next_at g c k A L n hn W h)
  have HR := hid (R1.first h 24)
  clear h
  go_enter Tryz.func25, Tryz.ntmps25
  go_wp2_with fail
  generalize w.alloc (.cells #[.int .i64 0, .int .i64 0, .int .i64 0, .int .i64 0] 24) = w1 at HR ⊢
  refine (HN.out _ _ _ (by omega) HR.out.e.d).mono ?_
  rintro e w2 ⟨rfl, hd, hR⟩
  obtain ⟨r1, hr1⟩ : ∃ r, rollV L k 5 = r := ⟨_, rfl⟩
  have q1 := rollV_range L k 5 (by omega)
  rw [hr1] at q1 ⊢
  have HR2 := hid (HR.out.roll hd hR)
  generalize rollK L k = k1 at HR2
  clear hr1 hd hR HR
  go_wp2_with fail
  refine (HN.out _ _ _ (by omega) HR2.out.e.d).mono ?_
  rintro e w3 ⟨rfl, hd, hR⟩
  obtain ⟨r2, hr2⟩ : ∃ r, rollV L k1 7 = r := ⟨_, rfl⟩
  have q2 := rollV_range L k1 7 (by omega)
  rw [hr2] at q2 ⊢
  have HR3 := hid (HR2.out.roll hd hR)
  generalize rollK L k1 = k2 at HR3
  clear hr2 hd hR HR2
  go_wp2_with fail
  refine (HN.out _ _ _ (by omega) HR3.out.e.d).mono ?_
  rintro e w4 ⟨rfl, hd, hR⟩
  obtain ⟨r3, hr3⟩ : ∃ r, rollV L k2 8 = r := ⟨_, rfl⟩
  have q3 := rollV_range L k2 8 (by omega)
  rw [hr3] at q3 ⊢
  have HR4 := hid (HR3.out.roll hd hR)
  generalize rollK L k2 = k3 at HR4
  clear hr3 hd hR HR3
  have v3 : IntKind.i64.wrap (15 * r3) = 15 * r3 := IntWalk.i64_in _ (by omega)
  have v3' : IntKind.i64.wrap (480 + 15 * r3) = 480 + 15 * r3 := IntWalk.i64_in _ (by clear v3; omega)
  go_wp2_with fail
  refine (HN.out _ _ _ (by omega) HR4.out.e.d).mono ?_
  rintro e w5 ⟨rfl, hd, hR⟩
  obtain ⟨r4, hr4⟩ : ∃ r, rollV L k3 3 = r := ⟨_, rfl⟩
  have q4 := rollV_range L k3 3 (by omega)
  rw [hr4] at q4 ⊢
  have HR5 := hid (HR4.out.roll hd hR)
  generalize rollK L k3 = k4 at HR5
  clear hr4 hd hR HR4
  have v4 : IntKind.i64.wrap (15 * r4) = 15 * r4 := IntWalk.i64_in _ (by clear v3 v3'; omega)
  have v4' : IntKind.i64.wrap (30 + 15 * r4) = 30 + 15 * r4 := IntWalk.i64_in _ (by clear v3 v3' v4; omega)
  obtain ⟨x0, x1, x2, x3, _⟩ := HR5.out.r.box
  have f0 := HR5.out.r.free 0
  have f1 := HR5.out.r.free 1
  have f2 := HR5.out.r.free 2
  have f3 := HR5.out.r.free 3
  have hg := HR5.out.g0
  go_wp2_with fail
  refine bodyPost_ret (v := .agg #[.int .i64 (1 + r1), .int .i64 (2 + r2), .int .i64 (480 + 15 * r3), .int .i64 (30 + 15 * r4)]) (results_c rfl _ _ _ ⟨w.heap.size, 0, none⟩ _ rfl (load_grid (HR5.out.r.all _ _ _ _))) rfl ?_
  exact ⟨_, _, _, _, _, rfl, ⟨by omega, by omega, by clear v3 v3' v4 v4'; omega, by clear v3 v3' v4 v4'; omega⟩, (((HR5.out.e.set _ _ _ (Nat.le_refl _) hg).set _ _ _ (Nat.le_refl _) hg).set _ _ _ (Nat.le_refl _) hg).set _ _ _ (Nat.le_refl _) hg⟩
end Go.Proofs.YtigdcgklpapfbaaGreatDoor
