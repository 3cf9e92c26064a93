/-
  The walk of CalendarPlaces: At and Where are inverse, and Days are the days of the weeks of a set, without the holidays. Conditions: the table of the months' lengths lies in memory as the text says; the numbers lie in memory as a slice of ints.
-/
import Derived.Test.YtkgindnlllhioaaDoorK6
import Derived.Test.YtkgindnlllhioaaDoorAwake
import Derived.Test.YtkgindnlllhioaaDoorPlacesM
import Derived.Test.YtkgindnlllhioaaDoorTerm
import Derived.Test.YtkgindnlllhioaaDoorSet
import Derived.Deep.RegionHeld3
set_option linter.unusedVariables false
namespace Go.Proofs.YtkgindnlllhioaaDoor
open Go Go.Proofs Go.RowKit Go.Lib

/-- What is kept: the table, the memory below, the dice, the term's block, its holidays. -/
structure PK (w : World) (g s c : Nat) (A : Option Addr) (L : List Int) (F W : Int) (A' : Option Addr) (c' : Nat) (l : List Int) (w' : World) : Prop where
  tab : Tab w'
  b : Below w.heap.size w w'
  d : ∃ k, DiceAt w' g A L c k
  zs : w'.heap[s]? = some (.cells #[.int .i64 F, .int .i64 W, .slice A' l.length c'] 37 (0, 0))
  row : IntRow w' (g + 1) (.slice A' l.length c') l
  gs : g < s
  hg : w.heap.size ≤ g
  h0 : 0 < w.heap.size
theorem IntRow.drawn {w : World} {B : Nat} {v : Value} {l : List Int} (h : IntRow w B v l) (n : Nat) : IntRow (w.drewN n) B v l := row_under h (below_drawn (Below.refl _ _) n)
section
variable {w : World} {g s c : Nat} {A : Option Addr} {L : List Int} {F W : Int} {A' : Option Addr} {c' : Nat} {l : List Int} {w' w'' : World}
theorem PK.lt (h : PK w g s c A L F W A' c' l w') : s < w'.heap.size := (Array.getElem?_eq_some_iff.1 h.zs).1
theorem PK.next (h : PK w g s c A L F W A' c' l w') (k : Below w'.heap.size w' w'') : PK w g s c A L F W A' c' l w'' := by
  have hs := h.lt
  have h1 := h.gs
  have h2 := h.hg
  have h3 := h.h0
  obtain ⟨kd, hd⟩ := h.d
  exact ⟨h.tab.below k (by omega), h.b.trans (k.mono (by omega)), ⟨kd, hd.below k (by omega)⟩, (k.block s hs).trans h.zs, row_under h.row k, h1, h2, h3⟩
theorem PK.roll (h : PK w g s c A L F W A' c' l w') {k' : Nat} (hd : DiceAt w'' g A L c k') (hr : Rolled g w' w'') : PK w g s c A L F W A' c' l w'' := by
  have h1 := h.gs
  have h2 := h.hg
  have h3 := h.h0
  exact ⟨h.tab.below (hr.below (B := g) (Nat.le_refl _)) (by omega), h.b.trans (hr.below h2), ⟨k', hd⟩, (hr.block s (by omega)).trans h.zs, h.row.rolled hr (by omega), h1, h2, h3⟩
theorem PK.drawn (h : PK w g s c A L F W A' c' l w') (n : Nat) : PK w g s c A L F W A' c' l (w'.drewN n) := h.next (below_drawn (Below.refl _ _) n)
theorem PK.z (h : PK w g s c A L F W A' c' l w') : w'.cell? ⟨s, 0, none⟩ = some (.int .i64 F) ∧ w'.cell? ⟨s, 1, none⟩ = some (.int .i64 W) ∧ w'.cell? ⟨s, 2, none⟩ = some (.slice A' l.length c') := by
  refine ⟨?_, ?_, ?_⟩ <;> (rw [Lib.cell_of_heap h.zs]; rfl)
theorem PK.ints (h : PK w g s c A L F W A' c' l w') : IntsIn w' w'.heap.size A' l := by
  obtain ⟨A1, c1, e, _, _, hI⟩ := h.row.intsIn
  injection e with e1 _ _
  subst e1
  exact hI
end

set_option maxHeartbeats 8000000 in
set_option maxRecDepth 100000 in
theorem places_any (A : Option Addr) (L : List Int) (c : Nat) (hl : L.length ≤ 9223372036854775807) (w : World) (hT : Tab w) (h0 : 0 < w.heap.size) (h : IntsIn w w.heap.size A L) :
    Calls Tryd.prog 7 #[.slice A L.length c] w fun e w' => e = .returned (.bool true) ∧ Below w.heap.size w w' := by
  have cL := hid (fun w => light_any A L.length c w)
  by_cases hL : L.length ≤ 400
  case neg =>
    rw [decide_eq_false hL] at cL
    have cK := hid (awake_any w hT)
    clear hT h hL
    go_enter Tryd.func7, Tryd.ntmps7
    go_wp2_with fail
    refine (cL.out _).mono ?_
    rintro e w1 ⟨rfl, rfl⟩
    go_wp2_with fail
    refine cK.out.mono ?_
    rintro e w1 ⟨rfl, rfl⟩
    go_wp2_with fail
    go_ret
    exact ⟨rfl, Below.refl _ _⟩
  case pos =>
    rw [decide_eq_true hL] at cL
    have cR := hid (roll_any A L c hL w h)
    have HT := hid hT
    clear h hT
    go_enter Tryd.func7, Tryd.ntmps7
    go_wp2_with fail
    refine (cL.out _).mono ?_
    rintro e w1 ⟨rfl, rfl⟩
    go_wp2_with fail
    refine cR.out.mono ?_
    rintro e w1 ⟨rfl, hd1, hb1⟩
    have hlt1 := hd1.lt
    have HB1 := hid hb1
    have HT1 := hid (HT.out.below hb1 h0)
    have cT := hid (term_any _ _ _ _ _ _ hd1)
    clear hd1 hb1 cL cR
    go_wp2_with fail
    refine cT.out.mono ?_
    rintro e w2 ⟨F, W, A', c', l, k2, rfl, hM, hrow, hE⟩
    obtain ⟨g, hg⟩ : ∃ g, w.heap.size = g := ⟨_, rfl⟩
    have hz2 : g < w2.heap.size := by rw [← hg]; exact hE.d.lt
    have HPK : Hid (PK w g w2.heap.size c A L F W A' c' l (w2.alloc (.cells #[.int .i64 F, .int .i64 W, .slice A' l.length c'] 37))) := by
      subst hg
      have hb12 : Below w.heap.size w1 w2 := hE.p.toBelow (Nat.le_of_lt hlt1) (Nat.le_refl _)
      have hb2 := HB1.out.trans hb12
      have ha : Below w2.heap.size w2 (w2.alloc (.cells #[.int .i64 F, .int .i64 W, .slice A' l.length c'] 37)) := (Below.refl _ w2).alloc (Nat.le_refl _) _
      refine hid ⟨(HT1.out.below hb12 h0).below ha (by omega), hb2.trans (ha.mono (by omega)), ⟨k2, hE.d.below ha hz2⟩, heap_alloc_new w2 _, row_under (IntRow.mono hrow (by omega)) ha, hz2, Nat.le_refl _, h0⟩
    obtain ⟨s, hs⟩ : ∃ s, w2.heap.size = s := ⟨_, rfl⟩
    have HM := hid hM
    clear hM hrow hE HB1 HT1 cT HT
    rw [hs] at HPK
    go_wp2_with fail
    generalize w2.alloc (.cells #[.int .i64 F, .int .i64 W, .slice A' l.length c'] 37) = w3 at HPK ⊢
    have HG := hid hg
    clear hg hs hz2
    have hlen := HM.out.len
    have hW0 := HM.out.w0
    have hW1 := HM.out.w1
    have hTm : Cal.Term F W l := by
      obtain ⟨a, a0, a1, e⟩ := HM.out.f
      exact Cal.made_term a0 a1 e hW0 hW1 hlen HM.out.inn HM.out.asc
    have hv0 := Cal.valid_term.2 hTm
    have hF0 := hTm.f0
    have hmon := hid hTm.mon
    have hla := hTm.last
    have hpair := Cal.asc_pair HM.out.asc
    have HSTEP := hid (fun x => Cal.cb_step hpair x)
    have hmem : ∀ d ∈ l, F ≤ d ∧ d < F + 7 * W := fun d hd => by
      obtain ⟨j, hj, e⟩ := List.getElem_of_mem hd
      have := HM.out.inn j hj
      rw [getD_elem hj, e] at this
      exact this
    have HFIRST : Hid (Cal.cb l (F + 7 * ((0 : Nat) : Int)) = 0) := hid (Cal.cb_none (fun d hd => by have := (hmem d hd).1; simpa using this))
    have HLAST : Hid (Cal.cb l (F + 7 * W) = l.length) := hid (Cal.cb_all (fun d hd => (hmem d hd).2))
    have hcb : Hid (∀ x, Cal.cb l x ≤ 4) := hid (fun x => Nat.le_trans (Cal.cb_le l x) hlen)
    have HV := hid hv0
    clear hTm hv0 hpair hmem
    have cAt := hid (fun k d (w' : World) (k' : PK w g s c A L F W A' c' l w') => (at_any F W A' l c' k d (by omega) w' k'.ints).mono (R' := fun e w'' => e = .returned (.tuple #[.int .i64 (Cal.atM F W l k d), .bool (Cal.atB F W l k d)]) ∧ PK w g s c A L F W A' c' l w'') fun e w'' ⟨h1, h2⟩ => ⟨h1, k'.next h2⟩)
    have cWh := hid (fun d (w' : World) (k' : PK w g s c A L F W A' c' l w') => (where_any F W A' l c' d (by omega) w' k'.ints).mono (R' := fun e w'' => e = .returned (.tuple #[.int .i64 (Cal.whereW F W l d), .int .i64 (Cal.whereD F W l d), .bool (Cal.whereB F W l d)]) ∧ Below w'.heap.size w' w'' ∧ PK w g s c A L F W A' c' l w'') fun e w'' ⟨h1, h2⟩ => ⟨h1, h2, k'.next h2⟩)
    have cWd := hid weekday_any
    go_loopw [5, 6] (fun nv iv wr => ∃ kw : Nat, iv = .int .i64 ((kw : Int) + 1) ∧ (kw : Int) ≤ W ∧ nv = .int .i64 (Cal.cb l (F + 7 * (kw : Int)) : Nat) ∧ Hid (PK w g s c A L F W A' c' l wr)) (fun _ iv _ => 10 - (RowKit.intOf iv).toNat)
    case atStart => exact ⟨0, rfl, by omega, by rw [HFIRST.out]; rfl, HPK⟩
    case round =>
      obtain ⟨kw, rfl, hkw, rfl, hPK⟩ := hrel
      obtain ⟨z0, z1, z2⟩ := hPK.out.z
      clear HPK
      by_cases hlt : (kw : Int) < W
      · have hltz : (kw : Int) + 1 ≤ W := by omega
        go_wp2_with fail
        go_loopw [5, 7] (fun nv iv wx => ∃ kd : Nat, iv = .int .i64 (kd : Int) ∧ kd ≤ 7 ∧ nv = .int .i64 (Cal.cb l (F + 7 * (kw : Int) + kd) : Nat) ∧ Hid (PK w g s c A L F W A' c' l wx)) (fun _ iv _ => 7 - (RowKit.intOf iv).toNat)
        case atStart => exact ⟨0, rfl, by omega, by simp, hPK⟩
        case round =>
          obtain ⟨kd, rfl, hkd, rfl, hPX⟩ := hrel
          clear z0 z1 z2 hPK
          obtain ⟨z0, z1, z2⟩ := hPX.out.z
          by_cases hdlt : kd < 7
          · have hdltz : (kd : Int) < 7 := by omega
            obtain ⟨N, hN⟩ : ∃ N, Cal.cb l (F + 7 * (kw : Int) + kd) = N := ⟨_, rfl⟩
            have hN4 : N ≤ 4 := by rw [← hN]; exact hcb.out _
            have hst := HSTEP.out (F + 7 * (kw : Int) + kd)
            rw [hN] at hst ⊢
            have hx : F + 7 * ((kw : Int) + 1 - 1) + (kd : Int) = F + 7 * (kw : Int) + kd := by omega
            cases hb : Cal.atB F W l ((kw : Int) + 1) kd with
            | false =>
              have hin : F + 7 * (kw : Int) + kd ∈ l := by
                by_cases hm : F + 7 * (kw : Int) + kd ∈ l
                · exact hm
                · have := atB_yes (F := F) (W := W) (L := l) (k := (kw : Int) + 1) (d := kd) ⟨HV.out, by omega, by omega, by omega, by omega, by rw [hx]; exact hm⟩
                  rw [hb] at this
                  cases this
              rw [if_pos hin] at hst
              have HST := hid hst
              have cA := hid (cAt.out ((kw : Int) + 1) kd wr hPX.out)
              rw [hb] at cA
              clear hst hin hx hN hb
              go_wp2_with fail
              refine cA.out.mono ?_
              rintro e w5 ⟨rfl, hk5⟩
              have HK5 := hid hk5
              clear hk5 z0 z1 z2
              go_wp2_with fail
              go_roundw
              case rel => exact ⟨kd + 1, by go_num, by omega, by rw [show F + 7 * (kw : Int) + ((kd + 1 : Nat) : Int) = F + 7 * (kw : Int) + kd + 1 by omega, HST.out]; go_num, HK5⟩
              case measure => simp [RowKit.intOf]; omega
            | true =>
              have hin : ¬ F + 7 * (kw : Int) + kd ∈ l := by
                have := (of_decide_eq_true hb).2.2.2.2.2
                rw [hx] at this
                exact this
              rw [if_neg hin] at hst
              have HST := hid hst
              have cA := hid (cAt.out ((kw : Int) + 1) kd wr hPX.out)
              have hat := at_yes hb
              obtain ⟨hw1, hw2, hw3⟩ := Cal.where_at hb
              rw [hx] at hat hw1 hw2 hw3
              rw [hb, hat] at cA
              have cW := hid (fun (w' : World) (k' : PK w g s c A L F W A' c' l w') => cWh.out (F + 7 * (kw : Int) + kd) w' k')
              rw [hw1, hw2, hw3] at cW
              have cD := hid (fun w => cWd.out (F + 7 * (kw : Int) + kd) w)
              have hwd : wdM (F + 7 * (kw : Int) + kd) = kd := by
                unfold wdM
                rw [dayB_yes (by omega) (by omega)]
                have := hmon.out
                simp only [if_true]
                omega
              rw [hwd] at cD
              have hsm : 0 ≤ F + 7 * (kw : Int) + kd ∧ F + 7 * (kw : Int) + kd ≤ 100000 := by omega
              obtain ⟨X, hX⟩ : ∃ X, F + 7 * (kw : Int) + kd = X := ⟨_, rfl⟩
              rw [hX] at cA cW cD hsm
              have HX := hid hX
              clear hst hin hx hN hb hat hw1 hw2 hw3 hwd hX
              go_wp2_with fail
              refine cA.out.mono ?_
              rintro e w5 ⟨rfl, hk5⟩
              have HK5 := hid hk5
              clear z0 z1 z2
              obtain ⟨z0, z1, z2⟩ := hk5.z
              clear hk5
              go_wp2_with fail
              refine (cW.out _ HK5.out).mono ?_
              rintro e w6 ⟨rfl, _, hk6⟩
              have HK6 := hid hk6
              clear hk6 z0 z1 z2
              go_wp2_with fail
              refine (cD.out _).mono ?_
              rintro e w7 ⟨rfl, rfl⟩
              go_wp2_with fail
              go_roundw
              case rel => exact ⟨kd + 1, by go_num, by omega, by rw [show F + 7 * (kw : Int) + ((kd + 1 : Nat) : Int) = F + 7 * (kw : Int) + kd + 1 by omega, HST.out]; rfl, HK6⟩
              case measure => simp [RowKit.intOf]; omega
          · have hdltz : ¬ (kd : Int) < 7 := by omega
            obtain rfl : kd = 7 := by omega
            go_wp2_with fail
            go_roundw
            case rel => exact ⟨kw + 1, by go_num, by omega, by rw [show F + 7 * ((kw + 1 : Nat) : Int) = F + 7 * (kw : Int) + ((7 : Nat) : Int) by omega], hPX⟩
            case measure => simp [RowKit.intOf]; omega
      · have hltz : ¬ (kw : Int) + 1 ≤ W := by omega
        have hkW : (kw : Int) = W := by omega
        have HN : Hid (Cal.cb l (F + 7 * (kw : Int)) = l.length) := hid (by rw [hkW]; exact HLAST.out)
        rw [HN.out]
        have hW8 : W = ((W.toNat : Nat) : Int) := by omega
        obtain ⟨Wn, hWn⟩ : ∃ n : Nat, W.toNat = n := ⟨_, rfl⟩
        rw [hWn] at hW8
        obtain ⟨kd0, hd0⟩ := hPK.out.d
        have cS := hid (set_any Wn (by omega) (by omega) g c kd0 A L wr hd0)
        rw [← hW8] at cS
        have HW8 : Hid (Wn ≤ 8) := hid (by omega)
        clear hd0 hWn HN hlt hW8 hkW
        go_wp2_with fail
        refine cS.out.mono ?_
        rintro e w5 ⟨⟨S, rfl, hS1, hS2⟩, ⟨k5, hd5⟩, hR5⟩
        have hk5 := hPK.out.roll hd5 hR5
        have hS20 : S ≤ 1048576 := by
          have h1 : 2 ^ Wn ≤ 2 ^ 20 := Nat.pow_le_pow_right (by omega) (by have := HW8.out; omega)
          have h2 : (2 : Int) ^ Wn = ((2 ^ Wn : Nat) : Int) := by rw [Int.natCast_pow]; rfl
          omega
        have cN : Hid (∀ w', PK w g s c A L F W A' c' l w' → Calls Tryd.prog 32 #[.pointer (some ⟨g, 0, none⟩), .int .i64 7] w' fun e w'' => (∃ r : Int, e = .returned (.int .i64 r) ∧ 0 ≤ r ∧ r < 7) ∧ PK w g s c A L F W A' c' l w'') :=
          hid fun w' k' => by
            obtain ⟨kd, hd⟩ := k'.d
            refine (next_at g c kd A L 7 (by omega) w' hd).mono ?_
            rintro e w'' ⟨h1, h2, h3⟩
            obtain ⟨q1, q2⟩ := rollV_range L kd 7 (by omega)
            exact ⟨⟨_, h1, q1, q2⟩, k'.roll h2 h3⟩
        have cD : Hid (∀ r w', PK w g s c A L F W A' c' l w' → Calls Tryd.prog 25 #[termV F W A' l.length c', timeV S r 0 1] w' fun e w'' => (∃ B q, e = .returned (.slice B (Cal.daysM F W l S r).length q) ∧ IntRow w'' (g + 1) (.slice B (Cal.daysM F W l S r).length q) (Cal.daysM F W l S r)) ∧ PK w g s c A L F W A' c' l w'') :=
          hid fun r w' k' => (days_any F W A' l c' S r 0 1 (by omega) (by omega) w' k'.ints).mono fun e w'' ⟨⟨v, h1, h3⟩, h2⟩ => by
            obtain ⟨B, q, rfl, _, _, h4⟩ := h3.intsIn
            exact ⟨⟨B, q, h1, IntRow.mono h3 (by have := k'.lt; have := k'.gs; omega)⟩, k'.next h2⟩
        have hk' : PK w g s c A L F W A' c' l w5.drew := hk5.drawn 1
        have HK5 := hid hk5
        clear z0 z1 z2 hPK cS hS2 hd5 hR5 hk5 cAt HSTEP HFIRST HLAST hcb
        go_wp2_with fail
        go_region_held3 (fun w' => w'.cell? ⟨s, 0, none⟩ = some (.int .i64 F) ∧ w'.cell? ⟨s, 1, none⟩ = some (.int .i64 W) ∧ w'.cell? ⟨s, 2, none⟩ = some (.slice A' l.length c'))
          (first | exact ⟨hk'.z.1, hk'.z.2.1, hk'.z.2.2⟩)
          (first
          | (go_at_call 32; refine (cN.out _ hk').mono ?_; rintro e w' ⟨⟨r, rfl, hr0, hr6⟩, hk'⟩)
          | (go_at_call 25; refine (cD.out _ _ hk').mono ?_; rintro e w' ⟨⟨B, q, rfl, hRow⟩, hk'⟩))
        have HK6 := hid hk'
        have HR6 := hid hRow
        obtain ⟨R, hR⟩ : ∃ R, Cal.daysM F W l S r = R := ⟨_, rfl⟩
        rw [hR] at HR6
        have hRW : (R.length : Int) ≤ W := by rw [← hR]; exact Cal.days_few' (by omega)
        have hEach : Hid (∀ j, j < R.length → ∃ i : Nat, i < 20 ∧ Cal.bitB S i = true ∧ Cal.atB F W l (i + 1) r = true ∧ R.getD j 0 = F + 7 * i + r) := hid fun j hj => by
          rw [← hR] at hj ⊢
          exact (Cal.days_each hj).2
        have hAsc : Hid (∀ j, j + 1 < R.length → R.getD j 0 < R.getD (j + 1) 0) := hid fun j hj => by
          rw [← hR] at hj ⊢
          exact Cal.days_asc hj
        rw [hR]
        clear hk' hRow HK5 cN cD hR
        go_wp2_with fail
        go_loopw [15] (fun iv wx => ∃ i : Nat, iv = .int .i64 (i : Int) ∧ i ≤ R.length ∧ Hid (IntRow wx (g + 1) (.slice B R.length q) R) ∧ Hid (PK w g s c A L F W A' c' l wx)) (fun iv _ => R.length - (RowKit.intOf iv).toNat)
        case atStart => exact ⟨0, rfl, Nat.zero_le _, HR6, HK6⟩
        case round =>
          obtain ⟨i, rfl, hi, hRi, hKi⟩ := hrel
          clear HK6 HR6
          by_cases hlt : i < R.length
          · have hltz : (i : Int) < (R.length : Int) := by omega
            obtain ⟨i0, hi0, hbit, hat, he⟩ := hEach.out i hlt
            obtain ⟨hw1, hw2, hw3⟩ := Cal.where_at hat
            obtain ⟨u, hu⟩ : ∃ u, F + 7 * ((i0 : Int) + 1 - 1) + r = u := ⟨_, rfl⟩
            have hRu : R.getD i 0 = u := by rw [he, ← hu]; omega
            obtain ⟨B1, q1, eB, _, _, hI⟩ := hRi.out.intsIn
            injection eB with eB1 _ eB3
            subst eB1 eB3
            obtain ⟨b, off, rfl, hbl, hc⟩ := hI.at_ hlt
            rw [hRu] at hc
            have HRU := hid hRu
            have HW' := hid (fun (w' : World) (k' : PK w g s c A L F W A' c' l w') => cWh.out u w' k')
            rw [hu] at hw1 hw2 hw3
            rw [hw1, hw2, hw3] at HW'
            have hk' : PK w g s c A L F W A' c' l wr.drew := hKi.out.drawn 1
            have hb1 := bit_yes (S := S) (k := i0) (by omega) (by omega) hbit
            have e1 : IntKind.i64.wrap ((i0 : Int) + 1 - 1) = (i0 : Int) := by rw [show (i0 : Int) + 1 - 1 = (i0 : Int) by omega]; exact IntWalk.i64_in _ (by omega)
            have e2 : IntKind.i64.wrap (i0 : Int) = (i0 : Int) := IntWalk.i64_in _ (by omega)
            have e3 : IntKind.u64.wrap (i0 : Int) = (i0 : Int) := by rw [IntKind.wrap_u64]; omega
            have hi0z : (0 : Int) ≤ (i0 : Int) := by omega
            have hi0y : (i0 : Int) < 20 := by omega
            clear hw1 hw2 hw3 hu hbit hat he
            clear hRu
            by_cases h0i : i = 0
            · subst h0i
              simp only [Nat.add_zero] at hc
              go_wp2_with fail
              go_region_held3 (fun w' => w'.cell? ⟨s, 0, none⟩ = some (.int .i64 F) ∧ w'.cell? ⟨s, 1, none⟩ = some (.int .i64 W) ∧ w'.cell? ⟨s, 2, none⟩ = some (.slice A' l.length c') ∧ w'.cell? ⟨b, off, none⟩ = some (.int .i64 u))
                (first | exact ⟨hk'.z.1, hk'.z.2.1, hk'.z.2.2, hc⟩)
                (first
                | (go_at_call 20; refine (HW'.out _ hk').mono ?_; rintro e w' ⟨rfl, hb', hk'⟩; have hc := (hb'.cell (p := ⟨b, off, none⟩) hbl).trans hc))
              have HK6 := hid hk'
              have HR6 : Hid (IntRow _ (g + 1) (.slice (some ⟨b, off, none⟩) R.length q) R) := hid (row_under (w := wr.drew) hRi.out hb')
              clear hk' hb'
              go_wp2_with fail
              go_quiet (fail)
              go_wp2_with fail
              go_roundw
              case rel => exact ⟨1, by rfl, by go_num, HR6.out.drawn nq |> hid, hid (HK6.out.drawn nq)⟩
              case measure => clear e1 e2 e3; simp [RowKit.intOf]; omega
            · obtain ⟨j, rfl⟩ : ∃ j, i = j + 1 := ⟨i - 1, by omega⟩
              obtain ⟨b', off', hA, _, hcp⟩ := hI.at_ (show j < R.length by omega)
              injection hA with hA
              injection hA with hA1 hA2 _
              subst hA1 hA2
              obtain ⟨v, hv⟩ : ∃ v, R.getD j 0 = v := ⟨_, rfl⟩
              have hvu : v < u := by rw [← hv, ← HRU.out]; exact hAsc.out j hlt
              rw [hv] at hcp
              have hle : decide (u ≤ v) = false := by simp; omega
              have e4 : IntKind.i64.wrap (((j + 1 : Nat) : Int) - 1) = (j : Int) := by
                rw [show ((j + 1 : Nat) : Int) - 1 = (j : Int) by omega]
                exact IntWalk.i64_in _ (by omega)
              have q5 : (j : Int) + 1 < (R.length : Int) := by omega
              have q6 : (0 : Int) ≤ (j : Int) + 1 := by omega
              have q7 : ((j : Int) + 1).toNat = j + 1 := by omega
              have e5 : IntKind.i64.wrap ((j : Int) + 1 - 1) = (j : Int) := by rw [show (j : Int) + 1 - 1 = (j : Int) by omega]; exact IntWalk.i64_in _ (by omega)
              clear hv
              go_wp2_with fail
              go_region_held3 (fun w' => w'.cell? ⟨s, 0, none⟩ = some (.int .i64 F) ∧ w'.cell? ⟨s, 1, none⟩ = some (.int .i64 W) ∧ w'.cell? ⟨s, 2, none⟩ = some (.slice A' l.length c') ∧ w'.cell? ⟨b, off + (j + 1), none⟩ = some (.int .i64 u))
                (first | exact ⟨hk'.z.1, hk'.z.2.1, hk'.z.2.2, hc⟩)
                (first
                | (go_at_call 20; refine (HW'.out _ hk').mono ?_; rintro e w' ⟨rfl, hb', hk'⟩; have hc := (hb'.cell (p := ⟨b, off + (j + 1), none⟩) hbl).trans hc; have hcp := (hb'.cell (p := ⟨b, off + j, none⟩) hbl).trans hcp))
              have HK6 := hid hk'
              have HR6 : Hid (IntRow _ (g + 1) (.slice (some ⟨b, off, none⟩) R.length q) R) := hid (row_under (w := wr.drew) hRi.out hb')
              clear hk' hb'
              go_wp2_with fail
              go_quiet (fail)
              go_wp2_with fail
              go_roundw
              case rel => exact ⟨j + 1 + 1, by go_num, by clear e1 e2 e3 e4 e5; omega, HR6.out.drawn nq |> hid, hid (HK6.out.drawn nq)⟩
              case measure => clear e1 e2 e3 e4 e5; simp [RowKit.intOf]; omega
          · have hltz : ¬ (i : Int) < (R.length : Int) := by omega
            have cK := hid (awake_any _ hKi.out.tab)
            obtain ⟨z0, z1, z2⟩ := hKi.out.z
            go_wp2_with fail
            refine cK.out.mono ?_
            rintro e w8 ⟨rfl, rfl⟩
            go_wp2_with fail
            go_ret
            exact ⟨by simp, hKi.out.b⟩
end Go.Proofs.YtkgindnlllhioaaDoor
