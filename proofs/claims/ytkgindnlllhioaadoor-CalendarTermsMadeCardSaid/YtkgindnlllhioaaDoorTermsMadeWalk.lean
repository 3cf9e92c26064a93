/-
  The walk of CalendarTermsMade: the program and the specification agree on Valid, At, Where and Days of made terms. Conditions: the table of the months' lengths lies in memory as the text says; the numbers lie in memory as a slice of ints.
-/
import Derived.Test.YtkgindnlllhioaaDoorTermsWalk
import Derived.Test.YtkgindnlllhioaaDoorOdd
set_option linter.unusedVariables false
namespace Go.Proofs.YtkgindnlllhioaaDoor
open Go Go.Proofs Go.RowKit Go.Lib

/-- What is kept: the table, the memory below, the dice, the term's block, its holidays. -/
structure MT (w : World) (g s c : Nat) (A : Option Addr) (L : List Int) (F W : Int) (A' : Option Addr) (c' : Nat) (l : List Int) (w' : World) : Prop where
  tab : Tab w'
  b : Below w.heap.size w w'
  d : ∃ k, DiceAt w' g A L c k
  zs : w'.heap[s]? = some (.cells #[.int .i64 F, .int .i64 W, .slice A' l.length c'] 37 (0, 0))
  row : IntRow w' (g + 1) (.slice A' l.length c') l
  gs : g < s
  hg : w.heap.size ≤ g
  h0 : 0 < w.heap.size
section
variable {w : World} {g s c : Nat} {A : Option Addr} {L : List Int} {F W : Int} {A' : Option Addr} {c' : Nat} {l : List Int} {w' w'' : World}
theorem MT.lt (h : MT w g s c A L F W A' c' l w') : s < w'.heap.size := (Array.getElem?_eq_some_iff.1 h.zs).1
theorem MT.next (h : MT w g s c A L F W A' c' l w') (k : Below w'.heap.size w' w'') : MT w g s c A L F W A' c' l w'' := by
  have hs := h.lt
  have h1 := h.gs
  have h2 := h.hg
  have h3 := h.h0
  obtain ⟨kd, hd⟩ := h.d
  exact ⟨h.tab.below k (by omega), h.b.trans (k.mono (by omega)), ⟨kd, hd.below k (by omega)⟩, (k.block s hs).trans h.zs, row_under h.row k, h1, h2, h3⟩
theorem MT.roll (h : MT w g s c A L F W A' c' l w') {k' : Nat} (hd : DiceAt w'' g A L c k') (hr : Rolled g w' w'') : MT w g s c A L F W A' c' l w'' := by
  have h1 := h.gs
  have h2 := h.hg
  have h3 := h.h0
  exact ⟨h.tab.below (hr.below (B := g) (Nat.le_refl _)) (by omega), h.b.trans (hr.below h2), ⟨k', hd⟩, (hr.block s (by omega)).trans h.zs, h.row.rolled hr (by omega), h1, h2, h3⟩
theorem MT.z (h : MT w g s c A L F W A' c' l w') : w'.cell? ⟨s, 0, none⟩ = some (.int .i64 F) ∧ w'.cell? ⟨s, 1, none⟩ = some (.int .i64 W) ∧ w'.cell? ⟨s, 2, none⟩ = some (.slice A' l.length c') := by
  refine ⟨?_, ?_, ?_⟩ <;> (rw [Lib.cell_of_heap h.zs]; rfl)
theorem MT.ints (h : MT w g s c A L F W A' c' l w') : IntsIn w' w'.heap.size A' l := by
  obtain ⟨A1, c1, e, _, _, hI⟩ := h.row.intsIn
  injection e with e1 _ _
  subst e1
  exact hI
end

theorem cells4 {w : World} {b : Nat} {cs : Array Value} {t : TypeId} (h : w.heap[b]? = some (.cells cs t (0, 0))) (j : Nat) (v : Value) (hv : cs[j]? = some v) : w.cell? ⟨b, j, none⟩ = some v := by rw [Lib.cell_of_heap h]; exact hv
/-- Behind the odd change. -/
def MidT (w : World) (g s c : Nat) (A : Option Addr) (L : List Int) (w' : World) : Prop :=
  ∃ (F W : Int) (A' : Option Addr) (c' : Nat) (l : List Int), (-1 ≤ F ∧ F ≤ 100000) ∧ l.length ≤ 70 ∧ MT w g s c A L F W A' c' l w'
theorem midT_set {w w4 w5 : World} {g s c k5 : Nat} {A A' A2 : Option Addr} {L l l2 : List Int} {F W F2 W2 : Int} {c' c2 : Nat} (h : MT w g s c A L F W A' c' l w4) (hz : w5.heap[s]? = some (.cells #[.int .i64 F, .int .i64 W, .slice A' l.length c'] 37 (0, 0))) (hb : Below g w4 w5) (hd : DiceAt w5 g A L c k5)
    (hrow : IntRow w5 (g + 1) (.slice A2 l2.length c2) l2) (hF : -1 ≤ F2 ∧ F2 ≤ 100000) (hl : l2.length ≤ 70) : MidT w g s c A L (((w5.setCell ⟨s, 0, none⟩ (.int .i64 F2)).setCell ⟨s, 1, none⟩ (.int .i64 W2)).setCell ⟨s, 2, none⟩ (.slice A2 l2.length c2)) := by
  have h1 := h.gs
  have h2 := h.hg
  have h3 := h.h0
  have HR : Rolled s w5 (((w5.setCell ⟨s, 0, none⟩ (.int .i64 F2)).setCell ⟨s, 1, none⟩ (.int .i64 W2)).setCell ⟨s, 2, none⟩ (.slice A2 l2.length c2)) := set3_rolled
  refine ⟨F2, W2, A2, c2, l2, hF, hl, ⟨(h.tab.below hb (by omega)).below (HR.below (B := s) (Nat.le_refl _)) (by omega), (h.b.trans (hb.mono h2)).trans (HR.below (by omega)), ⟨k5, hd.below (HR.below (B := s) (Nat.le_refl _)) h1⟩, set3 hz, hrow.other hz (by decide) HR, h1, h2, h3⟩⟩

set_option maxHeartbeats 8000000 in
set_option maxRecDepth 100000 in
theorem termsMade_any (A : Option Addr) (L : List Int) (c : Nat) (hl : L.length ≤ 9223372036854775807) (w : World) (hT : Tab w) (h0 : 0 < w.heap.size) (h : IntsIn w w.heap.size A L) :
    Calls Tryd.prog 6 #[.slice A L.length c] w fun e w' => e = .returned (.bool true) ∧ Below w.heap.size w w' := by
  have cL := hid (fun w => light_any A L.length c w)
  by_cases hL : L.length ≤ 400
  case neg =>
    rw [decide_eq_false hL] at cL
    have cK := hid (awake_any w hT)
    clear hT h hL
    go_enter Tryd.func6, Tryd.ntmps6
    go_wp2_with fail
    refine (cL.out _).mono ?_
    rintro e w1 ⟨rfl, rfl⟩
    go_wp2_with fail
    refine cK.out.mono ?_
    rintro e w1 ⟨rfl, rfl⟩
    go_wp2_with fail
    go_ret
    exact ⟨rfl, Below.refl _ _⟩
  case pos =>
    rw [decide_eq_true hL] at cL
    have cR := hid (roll_any A L c hL w h)
    have HT := hid hT
    clear h hT
    go_enter Tryd.func6, Tryd.ntmps6
    go_wp2_with fail
    refine (cL.out _).mono ?_
    rintro e w1 ⟨rfl, rfl⟩
    go_wp2_with fail
    refine cR.out.mono ?_
    rintro e w1 ⟨rfl, hd1, hb1⟩
    have hlt1 := hd1.lt
    have HB1 := hid hb1
    have HT1 := hid (HT.out.below hb1 h0)
    have cT := hid (term_any _ _ _ _ _ _ hd1)
    clear hd1 hb1 cL cR
    go_wp2_with fail
    refine cT.out.mono ?_
    rintro e w2 ⟨F, W, A', c', l, k2, rfl, hM, hrow, hE⟩
    obtain ⟨g, hg⟩ : ∃ g, w.heap.size = g := ⟨_, rfl⟩
    have hz2 : g < w2.heap.size := by rw [← hg]; exact hE.d.lt
    have HPK : Hid (MT w g w2.heap.size c A L F W A' c' l (w2.alloc (.cells #[.int .i64 F, .int .i64 W, .slice A' l.length c'] 37))) := by
      subst hg
      have hb12 : Below w.heap.size w1 w2 := hE.p.toBelow (Nat.le_of_lt hlt1) (Nat.le_refl _)
      have hb2 := HB1.out.trans hb12
      have ha : Below w2.heap.size w2 (w2.alloc (.cells #[.int .i64 F, .int .i64 W, .slice A' l.length c'] 37)) := (Below.refl _ w2).alloc (Nat.le_refl _) _
      refine hid ⟨(HT1.out.below hb12 h0).below ha (by omega), hb2.trans (ha.mono (by omega)), ⟨k2, hE.d.below ha hz2⟩, heap_alloc_new w2 _, row_under (IntRow.mono hrow (by omega)) ha, hz2, Nat.le_refl _, h0⟩
    obtain ⟨s, hs⟩ : ∃ s, w2.heap.size = s := ⟨_, rfl⟩
    have HFb : Hid (-1 ≤ F ∧ F ≤ 100000) := hid (by obtain ⟨a, a0, a1, e⟩ := hM.f; omega)
    have HWb : Hid (1 ≤ W ∧ W ≤ 8) := hid ⟨hM.w0, hM.w1⟩
    have HLb : Hid (l.length ≤ 4) := hid hM.len
    clear hM hrow hE HB1 HT1 cT HT
    rw [hs] at HPK
    go_wp2_with fail
    generalize w2.alloc (.cells #[.int .i64 F, .int .i64 W, .slice A' l.length c'] 37) = w3 at HPK ⊢
    have HG := hid hg
    clear hg hs hz2
    obtain ⟨kd, hd3⟩ := HPK.out.d
    have cO := hid (one_any g c kd A L 3 (by omega) (by omega) w3 hd3)
    clear hd3
    refine cO.out.mono ?_
    rintro e w4 ⟨⟨r, rfl⟩, ⟨k4, hd4⟩, hR4⟩
    have HP4 := hid (HPK.out.roll hd4 hR4)
    clear HPK hd4 hR4 cO
    obtain ⟨z0, z1, z2⟩ := HP4.out.z
    have f0 := cells_free HP4.out.zs 0
    have f1 := cells_free HP4.out.zs 1
    have f2 := cells_free HP4.out.zs 2
    go_upto_if 15 with fail
    go_cut [4] (fun v wx => v = .pointer (some ⟨s, 0, none⟩) ∧ MidT w g s c A L wx)
    case first =>
      cases r with
      | false =>
        go_wp2_with fail
        go_meet
        exact ⟨rfl, ⟨F, W, A', c', l, HFb.out, by have := HLb.out; omega, HP4.out⟩⟩
      | true =>
        obtain ⟨k4, hd4⟩ := HP4.out.d
        have cD := hid (odd_any g c k4 A L F W A' c' l HFb.out HWb.out HLb.out w4 hd4 HP4.out.row)
        have hgs := HP4.out.gs
        have hlt4 := HP4.out.lt
        clear hd4
        go_wp2_with fail
        refine cD.out.mono ?_
        rintro e w5 ⟨F2, W2, A2, c2, l2, k5, rfl, hF2, hl2, hrow2, hE2⟩
        have hb45 : Below g w4 w5 := hE2.p.toBelow (by omega) (Nat.le_refl _)
        have hz5 : w5.heap[s]? = some (.cells #[.int .i64 F, .int .i64 W, .slice A' l.length c'] 37 (0, 0)) := (hE2.p.block s (by omega) (by omega)).trans HP4.out.zs
        have HM := hid (midT_set HP4.out hz5 hb45 hE2.d hrow2 hF2 hl2 (W2 := W2))
        have z0' : w5.cell? ⟨s, 0, none⟩ = some (.int .i64 F) := by rw [Lib.cell_of_heap hz5]; rfl
        have z1' : w5.cell? ⟨s, 1, none⟩ = some (.int .i64 W) := by rw [Lib.cell_of_heap hz5]; rfl
        have z2' : w5.cell? ⟨s, 2, none⟩ = some (.slice A' l.length c') := by rw [Lib.cell_of_heap hz5]; rfl
        have f0' := cells_free hz5 0
        have f1' := cells_free hz5 1
        have f2' := cells_free hz5 2
        clear hb45 hz5 hrow2 hE2 cD z0 z1 z2 f0 f1 f2
        go_wp2_with fail
        go_meet
        exact ⟨rfl, HM.out⟩
    case rest =>
      obtain ⟨rfl, F2, W2, A2, c2, l2, hF2, hl2, hK⟩ := hcut
      have HK := hid hK
      clear hK HP4 HFb HWb HLb z0 z1 z2 f0 f1 f2
      have cN : Hid (∀ n, 1 ≤ n → n ≤ 4294967296 → ∀ w', MT w g s c A L F2 W2 A2 c2 l2 w' → Calls Tryd.prog 32 #[.pointer (some ⟨g, 0, none⟩), .int .i64 n] w' fun e w'' => (∃ r : Int, e = .returned (.int .i64 r) ∧ 0 ≤ r ∧ r < n) ∧ Rolled g w' w'' ∧ MT w g s c A L F2 W2 A2 c2 l2 w'') :=
        hid fun n hn1 hn w' k' => by
          obtain ⟨kd, hd⟩ := k'.d
          refine (next_at g c kd A L n hn w' hd).mono ?_
          rintro e w'' ⟨h1, h2, h3⟩
          obtain ⟨q1, q2⟩ := rollV_range L kd n hn1
          exact ⟨⟨_, h1, q1, q2⟩, h3, k'.roll h2 h3⟩
      go_wp2_with fail
      refine (cN.out _ (by omega) (by omega) _ HK.out).mono ?_
      rintro e w6 ⟨⟨r1, rfl, hr1, hr1'⟩, _, hk6⟩
      have HK6 := hid hk6
      clear hk6 HK
      go_wp2_with fail
      refine (cN.out _ (by omega) (by omega) _ HK6.out).mono ?_
      rintro e w7 ⟨⟨r2, rfl, hr2, hr2'⟩, _, hk7⟩
      have hlt7 := hk7.lt
      have hgs := hk7.gs
      have hk8 := hk7.next ((Below.refl _ w7).alloc (Nat.le_refl _) (.cells #[.int .i64 r1, .int .i64 r2, .int .i64 0, .int .i64 1] 39))
      have ht8 := heap_alloc_new w7 (.cells #[.int .i64 r1, .int .i64 r2, .int .i64 0, .int .i64 1] 39)
      obtain ⟨t, ht⟩ : ∃ t, w7.heap.size = t := ⟨_, rfl⟩
      rw [ht] at ht8 hlt7
      have HK8 := hid hk8
      have HT8 := hid ht8
      clear hk7 hk8 ht8 HK6
      go_wp2_with fail
      generalize w7.alloc (.cells #[.int .i64 r1, .int .i64 r2, .int .i64 0, .int .i64 1] 39) = w8 at HK8 HT8 ⊢
      clear ht
      have cC : Hid (∀ a0 a1 a2 w', MT w g s c A L F2 W2 A2 c2 l2 w' → Calls Tryd.prog 5 #[termV F2 W2 A2 l2.length c2, .agg #[.int .i64 a0, .int .i64 a1, .int .i64 a2], timeV r1 r2 0 1] w' fun e w'' => e = .returned (.bool true) ∧ Below w'.heap.size w' w'') :=
        hid fun a0 a1 a2 w' k' => (terms_any F2 W2 A2 l2 c2 a0 a1 a2 r1 r2 0 1 (by omega) (by omega) w' k'.tab (by have := k'.lt; omega) k'.ints)
      have hk' : MT w g s c A L F2 W2 A2 c2 l2 w8.drew := HK8.out.next (Below.refl _ w8).drew
      have ht' : w8.drew.heap[t]? = some (.cells #[.int .i64 r1, .int .i64 r2, .int .i64 0, .int .i64 1] 39 (0, 0)) := HT8.out
      go_region_held3 (fun w' => w'.cell? ⟨s, 0, none⟩ = some (.int .i64 F2) ∧ w'.cell? ⟨s, 1, none⟩ = some (.int .i64 W2) ∧ w'.cell? ⟨s, 2, none⟩ = some (.slice A2 l2.length c2) ∧ w'.cell? ⟨t, 0, none⟩ = some (.int .i64 r1) ∧ w'.cell? ⟨t, 1, none⟩ = some (.int .i64 r2) ∧ w'.cell? ⟨t, 2, none⟩ = some (.int .i64 0) ∧ w'.cell? ⟨t, 3, none⟩ = some (.int .i64 1))
        (first | exact ⟨hk'.z.1, hk'.z.2.1, hk'.z.2.2, cells4 ht' 0 _ rfl, cells4 ht' 1 _ rfl, cells4 ht' 2 _ rfl, cells4 ht' 3 _ rfl⟩ | trivial)
        (first
        | (go_at_call 32; refine (cN.out _ (by omega) (by omega) _ hk').mono ?_; rintro e w' ⟨⟨r, rfl, hr, hrn⟩, hR, hk'⟩; have ht' := (hR.block t (by omega)).trans ht'; have v1 : IntKind.i64.wrap (F2 + r) = F2 + r := IntWalk.i64_in _ (by omega); have v2 : IntKind.i64.wrap (F2 + r - 3) = F2 + r - 3 := IntWalk.i64_in _ (by clear v1; omega))
        | (go_at_call 5; refine (cC.out _ _ _ _ hk').mono ?_; rintro e w' ⟨rfl, hb'⟩; have ht' := (hb'.block t (Array.getElem?_eq_some_iff.1 ht').1).trans ht'; have hk' := hk'.next hb'))
      all_goals go_wp2
      all_goals go_ret
      all_goals exact ⟨rfl, hk'.b⟩
end Go.Proofs.YtkgindnlllhioaaDoor
