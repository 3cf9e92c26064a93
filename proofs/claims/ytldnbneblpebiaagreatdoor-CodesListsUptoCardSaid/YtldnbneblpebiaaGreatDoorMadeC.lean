/-
  The made codes: Codes of timetablemade.Dice gives back different codes, at most 16. Conditions: the dice lie in memory.
-/
import Derived.Test.YtldnbneblpebiaaGreatDoorRangesM
import Derived.Test.YtldnbneblpebiaaGreatDoorText
set_option linter.unusedVariables false
namespace Go.Proofs.YtldnbneblpebiaaGreatDoor
open Go Go.Proofs Go.RowKit Go.Lib

def tabC : List Str := [[65, 49], [65, 50], [65, 51], [65, 52], [82, 48, 56], [82, 48, 57], [82, 49, 48], [82, 49, 49], [66], [67, 45, 49], [120], [57], [49, 48], [49, 49], [77, 65], [90, 122]]
theorem tabC_valid : ∀ c ∈ tabC, validC c = true := by decide
/-- While codes are made. -/
structure MC (k : Nat) (l : List Str) : Prop where
  nd : l.Nodup
  mem : ∀ c ∈ l, c ∈ tabC
  len : l.length ≤ 16
theorem tabC_get {k : Nat} (h : k < 16) : tabC.getD k [] ∈ tabC := by
  rcases (show k = 0 ∨ k = 1 ∨ k = 2 ∨ k = 3 ∨ k = 4 ∨ k = 5 ∨ k = 6 ∨ k = 7 ∨ k = 8 ∨ k = 9 ∨ k = 10 ∨ k = 11 ∨ k = 12 ∨ k = 13 ∨ k = 14 ∨ k = 15 by omega) with e | e | e | e | e | e | e | e | e | e | e | e | e | e | e | e <;> subst e <;> decide
theorem MC.snoc {k k' : Nat} {l : List Str} (h : MC k l) (hk : k < 16) (hl : l.length < 16) (hn : tabC.getD k [] ∉ l) : MC k' (l ++ [tabC.getD k []]) := by
  refine ⟨?_, fun c hc => ?_, by simp; omega⟩
  · rw [List.nodup_append]
    refine ⟨h.nd, by simp, fun a ha b hb e => ?_⟩
    simp at hb
    subst hb
    subst e
    exact hn ha
  · rcases List.mem_append.1 hc with hc | hc
    · exact h.mem c hc
    · simp at hc; subst hc; exact tabC_get hk
theorem MC.check {k : Nat} {l : List Str} (h : MC k l) : checkM l = 0 := by
  unfold checkM
  rw [if_neg (by have := h.len; omega)]
  exact checkGo_ok _ _ (fun c hc => tabC_valid c (h.mem c hc)) (fun c _ => by simp) h.nd

theorem mem_take_succ (l : List Str) (s : Str) (i : Nat) (h : i < l.length) : s ∈ l.take (i + 1) ↔ s ∈ l.take i ∨ l[i] = s := by
  rw [List.take_succ_eq_append_getElem h, List.mem_append, List.mem_singleton]
  constructor
  · rintro (h | h)
    · exact .inl h
    · exact .inr h.symm
  · rintro (h | h)
    · exact .inl h
    · exact .inr h.symm
set_option maxHeartbeats 1000000 in
theorem has_any (A : Option Addr) (l : List Str) (c : Nat) (s : Str) (Pp : Nat → Prop) (hl : l.length ≤ 9223372036854775807) (w : World) (h : StrsIn w Pp A l) :
    Calls Tryz.prog 42 #[.slice A l.length c, .string (ba s)] w fun e w' => e = .returned (.bool (decide (s ∈ l))) ∧ w = w' := by
  have H := hid h
  clear h
  go_enter Tryz.func42, Tryz.ntmps42
  go_wp2
  go_loop [5] (fun i => ∃ k : Nat, k ≤ l.length ∧ i = .int .i64 k ∧ Hid (s ∉ l.take k)) (fun i => l.length - (RowKit.intOf i).toNat)
  case atStart => exact ⟨0, Nat.zero_le _, rfl, hid (by simp)⟩
  case round =>
    obtain ⟨k, hk, rfl, hN⟩ := hrel
    by_cases hlt : k < l.length
    · obtain ⟨b, off, rfl, hb, hc⟩ := H.out.at_ hlt
      have hltz : (k : Int) < (l.length : Int) := by omega
      have hc' : w.cell? ⟨b, off + k, none⟩ = some (.string (ba l[k])) := hc
      have HT := hid (mem_take_succ l s k hlt)
      obtain ⟨u, hu⟩ : ∃ u, l[k] = u := ⟨_, rfl⟩
      rw [hu] at hc' HT
      clear hc
      rcases str_eq (a := ba u) (b := ba s) with ⟨he, t1, t2⟩ | ⟨he, t1, t2⟩
      · have hm : s ∈ l := by
          have : u = s := he
          rw [← this, ← hu]
          exact List.getElem_mem hlt
        have HM := hid hm
        clear he hm hu
        go_wp2
        go_ret
        exact ⟨by rw [decide_eq_true HM.out]; rfl, rfl⟩
      · have HE : Hid (u ≠ s) := hid (fun e => he (by rw [e]))
        clear he hu
        go_wp2
        go_round
        case rel => exact ⟨k + 1, by omega, by go_num, hid (fun hm => by
          rcases HT.out.1 hm with h | h
          · exact hN.out h
          · exact HE.out h)⟩
        case measure => simp [RowKit.intOf]; omega
    · have hltz : ¬ (k : Int) < (l.length : Int) := by omega
      obtain rfl : k = l.length := by omega
      have hm : s ∉ l := by have := hN.out; rwa [List.take_length] at this
      have HM := hid hm
      clear hm
      go_wp2
      go_ret
      exact ⟨by rw [decide_eq_false HM.out]; rfl, rfl⟩

/-- What is kept while codes are made. -/
structure CE (w0 : World) (g c : Nat) (A : Option Addr) (L : List Int) (w : World) : Prop where
  d : ∃ k, DiceAt w g A L c k
  p : Played w0.heap.size g w0 w
  t : ∀ k, k < 16 → w.cell? ⟨w0.heap.size, k, none⟩ = some (.string (ba (tabC.getD k [])))
  s : w0.heap.size < w.heap.size
  g0 : g < w0.heap.size
section
variable {w0 w w' : World} {g c k' : Nat} {A : Option Addr} {L : List Int}
theorem CE.roll (h : CE w0 g c A L w) (hd : DiceAt w' g A L c k') (hr : Rolled g w w') : CE w0 g c A L w' :=
  ⟨⟨k', hd⟩, h.p.rolled hr, fun k hk => (World.cell?_of_block (w := w) (a := ⟨w0.heap.size, k, none⟩) (hr.block w0.heap.size (by have := h.g0; omega))).trans (h.t k hk), by rw [hr.size]; exact h.s, h.g0⟩
theorem CE.below (h : CE w0 g c A L w) (hb : Below (w0.heap.size + 1) w w') : CE w0 g c A L w' := by
  obtain ⟨k, hd⟩ := h.d
  have := h.g0
  exact ⟨⟨k, hd.below hb (by omega)⟩, h.p.below (hb.mono (by omega)), fun k hk => (hb.cell (p := ⟨w0.heap.size, k, none⟩) (Nat.lt_succ_self w0.heap.size)).trans (h.t k hk), Nat.lt_of_lt_of_le h.s hb.size, h.g0⟩
end
/-- The table. -/
def tabO : Obj := .cells (tabC.map strV).toArray 54
theorem ce_first {w : World} {g c k : Nat} {A : Option Addr} {L : List Int} (h : DiceAt w g A L c k) : CE w g c A L (w.alloc tabO) := by
  have hb : Below w.heap.size w (w.alloc tabO) := (Below.refl _ w).alloc (Nat.le_refl _) _
  have hz : (w.alloc tabO).heap[w.heap.size]? = some tabO := heap_alloc_new w tabO
  refine ⟨⟨k, h.below hb h.lt⟩, (Played.refl _ _ _).below hb, fun k hk => ?_, (Array.getElem?_eq_some_iff.1 hz).1, h.lt⟩
  rw [Lib.cell_of_heap (show (w.alloc tabO).heap[w.heap.size]? = some (.cells (tabC.map strV).toArray 54 (0, 0)) from hz)]
  rcases (show k = 0 ∨ k = 1 ∨ k = 2 ∨ k = 3 ∨ k = 4 ∨ k = 5 ∨ k = 6 ∨ k = 7 ∨ k = 8 ∨ k = 9 ∨ k = 10 ∨ k = 11 ∨ k = 12 ∨ k = 13 ∨ k = 14 ∨ k = 15 by omega) with e | e | e | e | e | e | e | e | e | e | e | e | e | e | e | e <;> subst e <;> rfl
/-- What Codes hands back. -/
def CodesP (g c : Nat) (A : Option Addr) (L : List Int) (w0 : World) (e : Ending) (w' : World) : Prop :=
  ∃ (v : Value) (l : List Str), e = .returned v ∧ checkM l = 0 ∧ StrRow w' (w0.heap.size + 1) v l ∧ CE w0 g c A L w'

set_option maxHeartbeats 4000000 in
set_option maxRecDepth 100000 in
theorem codes_any (g c k0 : Nat) (A : Option Addr) (L : List Int) (most : Int) (hm : 0 ≤ most ∧ most ≤ 16) (w : World) (h : DiceAt w g A L c k0) :
    Calls Tryz.prog 17 #[.pointer (some ⟨g, 0, none⟩), .int .i64 most] w (CodesP g c A L w) := by
  have hgl := h.lt
  have HD := hid h
  have HN : Hid (∀ n, 1 ≤ n → n ≤ 4294967296 → ∀ w', CE w g c A L w' → Calls Tryz.prog 41 #[.pointer (some ⟨g, 0, none⟩), .int .i64 n] w' fun e w'' => (∃ r : Int, e = .returned (.int .i64 r) ∧ 0 ≤ r ∧ r < n) ∧ CE w g c A L w'' ∧ Rolled g w' w'') :=
    hid fun n h1 hn w' hk => by
      obtain ⟨kd, hd⟩ := hk.d
      refine (next_any g c kd A L n hn w' hd).mono ?_
      rintro e w'' ⟨⟨r, e1, e2⟩, ⟨k', hd'⟩, hr⟩
      exact ⟨⟨r, e1, e2 h1⟩, hk.roll hd' hr, hr⟩
  have HO : Hid (∀ w', CE w g c A L w' → Calls Tryz.prog 18 #[.pointer (some ⟨g, 0, none⟩), .int .i64 4] w' fun e w'' => (∃ r : Bool, e = .returned (.bool r)) ∧ CE w g c A L w'' ∧ Rolled g w' w'') :=
    hid fun w' hk => by
      obtain ⟨kd, hd⟩ := hk.d
      refine (one_any g c kd A L 4 (by omega) (by omega) w' hd).mono ?_
      rintro e w'' ⟨h1, ⟨k', hd'⟩, hr⟩
      exact ⟨h1, hk.roll hd' hr, hr⟩
  clear h
  go_enter Tryz.func17, Tryz.ntmps17
  go_wp2_with fail
  have HC := hid (ce_first HD.out)
  clear HD
  refine (HN.out 16 (by omega) (by omega) _ (show CE w g c A L (w.alloc _) from HC.out)).mono ?_
  rintro e w2 ⟨⟨k1, rfl, hk0, hk16⟩, hC2, _⟩
  have HC2 := hid hC2
  clear hC2 HC
  obtain ⟨k, rfl⟩ : ∃ k : Nat, k1 = (k : Int) := ⟨k1.toNat, by omega⟩
  go_wp2_with fail
  refine (HN.out _ (by omega) (by omega) _ HC2.out).mono ?_
  rintro e w3 ⟨⟨n1, rfl, hn0, hn1⟩, hC3, _⟩
  have HC3 := hid hC3
  clear hC3 HC2
  obtain ⟨n, rfl⟩ : ∃ n : Nat, n1 = (n : Int) := ⟨n1.toNat, by omega⟩
  have HM0 : Hid (MC k []) := hid ⟨by simp, fun c hc => by simp at hc, by simp⟩
  have HN0 : Hid (tabC.getD k [] ∉ ([] : List Str)) := hid (by simp)
  obtain ⟨i9, hi9, hz9, hsi9, hby9⟩ := info_parts infoStr
  go_wp2_with fail
  go_loopw [6, 7, 8] (fun kv v nv wr => ∃ (k n : Nat) (l : List Str), kv = .int .i64 (k : Int) ∧ nv = .int .i64 (n : Int) ∧ k < 16 ∧ n ≤ 16 ∧ Hid (MC k l) ∧ Hid (tabC.getD k [] ∉ l) ∧ StrRow wr (w.heap.size + 1) v l ∧ Hid (CE w g c A L wr)) (fun _ _ nv _ => (RowKit.intOf nv).toNat)
  case atStart => exact ⟨k, n, [], rfl, rfl, by omega, by omega, HM0, HN0, World.ownsRow_nil _ _ _ _, HC3⟩
  case round =>
    obtain ⟨k, n, l, rfl, rfl, hk, hn, hM, hN, hrow, hC⟩ := hrel
    obtain ⟨Ar, cr, rfl⟩ := row_slice hrow
    have hll := hM.out.len
    have HRow := hid hrow
    have hs := hC.out.s
    clear hrow HC3 HM0 HN0
    by_cases hgo : 0 < n ∧ l.length < 16
    · obtain ⟨hn0, hl16⟩ := hgo
      have hn0z : (0 : Int) < (n : Int) := by omega
      have hl16z : (l.length : Int) < 16 := by omega
      have hck := hC.out.t k hk
      have hkz : (k : Int) < 16 := by omega
      obtain ⟨X, hX⟩ : ∃ X, tabC.getD k [] = X := ⟨_, rfl⟩
      have hsn := fun k' => hM.out.snoc (k' := k') hk hl16 hN.out
      rw [hX] at hck hsn
      have HSN := hid hsn
      have HC3 : Hid (l.length + 1 ≤ maxLen) := by unfold maxLen; exact hid (by omega)
      have HC4 : Hid ((l.length + 1) * 16 ≤ 140737488355328) := hid (by omega)
      have HC5 : Hid (∀ o : Obj, w.heap.size + 1 ≤ (wr.alloc o).heap.size) := hid (fun o => by simp; omega)
      clear hX hsn hN
      go_wp2_with (at_builtin; refine wpList_append_own _ rfl _ _ 34 rfl (w.heap.size + 1) 9 i9 (.string ⟨#[]⟩) 1 16 Tryz.underlying34 hi9 hz9 hsi9 hby9 rfl (by decide) _ l.length (strVals l) rfl (World.ownsRow.alloc HRow.out _) ⟨wr.heap.size, 0, none⟩ 1 1 [.string (ba X)] rfl rfl (one_new _ _ _) (one_str _) HC3.out HC4.out (HC5.out _) ?_)
      intro v' w4 hown' hgrow _
      have hg' := grownBy_of_alloc hgrow
      have hb4 : Below (w.heap.size + 1) wr w4 := (Below.refl _ wr).grown hg' (by omega) (fun k hk => (World.ownsRow.lt HRow.out k hk).1)
      have HC4' := hid (hC.out.below hb4)
      obtain ⟨A4, c4, rfl⟩ := row_slice hown'
      have HRow4 : Hid (StrRow w4 (w.heap.size + 1) (.slice A4 (l.length + 1) c4) (l ++ [X])) := hid (by
        unfold StrRow
        rw [strVals_app, List.length_append]
        exact hown')
      have hl2 : (l ++ [X]).length = l.length + 1 := by simp
      obtain ⟨l2, hl2e⟩ : ∃ l2, l ++ [X] = l2 := ⟨_, rfl⟩
      rw [hl2e] at HRow4 HSN hl2
      have HL2 := hid hl2
      rw [← hl2] at HRow4
      clear hown' hgrow hg' hb4 hck hl2e hC HRow hl2
      go_wp2_with fail
      obtain ⟨k2, hk2⟩ : ∃ k2 : Nat, ((k : Int) + 1) % 16 = (k2 : Int) := ⟨(k + 1) % 16, by omega⟩
      have hK2 : k2 < 16 := by omega
      rw [hk2]
      clear hk2
      refine (HO.out _ HC4'.out).mono ?_
      rintro e w5 ⟨⟨r, rfl⟩, hC5, hR5⟩
      have HC5' := hid hC5
      have HRow5 : Hid (StrRow w5 (w.heap.size + 1) (.slice A4 l2.length c4) l2) := hid (StrRow.rolled HRow4.out hR5 (by omega))
      rw [← HL2.out]
      have hl2b : l2.length ≤ 16 := by rw [HL2.out]; omega
      clear hC5 hR5 HC4' HRow4 hl16z hl16 hkz
      cases r with
      | false =>
        have hck := HC5'.out.t k2 hK2
        have hK2z : (k2 : Int) < 16 := by omega
        obtain ⟨Y, hY⟩ : ∃ Y, tabC.getD k2 [] = Y := ⟨_, rfl⟩
        rw [hY] at hck
        obtain ⟨A5, c5, eA, hlc, hc63, hIn⟩ := StrRow.strsIn HRow5.out
        have hA5 : Hid (A4 = A5 ∧ c4 = c5) := hid (by injection eA with e1 _ e3; exact ⟨e1, e3⟩)
        obtain ⟨rfl, rfl⟩ := hA5.out
        have cH := hid (has_any A4 l2 c4 Y _ (by omega) w5 hIn)
        have HY := hid hY
        clear eA hA5 hIn hY hlc hc63
        by_cases hmem : Y ∈ l2
        · rw [decide_eq_true hmem] at cH
          clear hmem
          go_wp2_with fail
          refine cH.out.mono ?_
          rintro e w6 ⟨rfl, rfl⟩
          go_wp2_with fail
          go_ret
          exact ⟨_, l2, rfl, (HSN.out k2).check, HRow5.out, HC5'.out⟩
        · rw [decide_eq_false hmem] at cH
          have HNM : Hid (tabC.getD k2 [] ∉ l2) := hid (by rw [HY.out]; exact hmem)
          clear hmem
          go_wp2_with fail
          refine cH.out.mono ?_
          rintro e w6 ⟨rfl, rfl⟩
          go_wp2_with fail
          go_roundw
          case rel => exact ⟨k2, n - 1, l2, by first | rfl | go_num, by first | go_num | (rw [show ((n - 1 : Nat) : Int) = (n : Int) - 1 by omega]), hK2, by omega, hid (HSN.out k2), HNM.out |> hid, HRow5.out, hid HC5'.out⟩
          case measure => simp [RowKit.intOf]; omega
      | true =>
        by_cases hfull : l2.length < 16
        · have hfz : (l2.length : Int) < 16 := by omega
          have hmod : ∃ k3 : Nat, ((k2 : Int) + 1) % 16 = (k3 : Int) := ⟨(k2 + 1) % 16, by omega⟩
          obtain ⟨k3, hk3⟩ := hmod
          have hK3 : k3 < 16 := by omega
          have hck := HC5'.out.t k3 hK3
          have hKKz : (k3 : Int) < 16 := by omega
          obtain ⟨Y, hY⟩ : ∃ Y, tabC.getD k3 [] = Y := ⟨_, rfl⟩
          rw [hY] at hck
          obtain ⟨A5, c5, eA, hlc, hc63, hIn⟩ := StrRow.strsIn HRow5.out
          have hA5 : Hid (A4 = A5 ∧ c4 = c5) := hid (by injection eA with e1 _ e3; exact ⟨e1, e3⟩)
          obtain ⟨rfl, rfl⟩ := hA5.out
          have cH := hid (has_any A4 l2 c4 Y _ (by omega) w5 hIn)
          have HY := hid hY
          clear eA hA5 hIn hY hlc hc63
          by_cases hmem : Y ∈ l2
          · rw [decide_eq_true hmem] at cH
            clear hmem
            go_wp2_with fail
            refine cH.out.mono ?_
            rintro e w6 ⟨rfl, rfl⟩
            go_wp2_with fail
            go_ret
            exact ⟨_, l2, rfl, (HSN.out k3).check, HRow5.out, HC5'.out⟩
          · rw [decide_eq_false hmem] at cH
            clear hmem HY
            go_wp2_with fail
            refine cH.out.mono ?_
            rintro e w6 ⟨rfl, rfl⟩
            clear hck cH
            have hKK := hK3
            have hck := HC5'.out.t k3 hKK
            have hKKz : (k3 : Int) < 16 := by omega
            obtain ⟨Y, hY⟩ : ∃ Y, tabC.getD k3 [] = Y := ⟨_, rfl⟩
            rw [hY] at hck
            obtain ⟨A5, c5, eA, hlc, hc63, hIn⟩ := StrRow.strsIn HRow5.out
            have hA5 : Hid (A4 = A5 ∧ c4 = c5) := hid (by injection eA with e1 _ e3; exact ⟨e1, e3⟩)
            obtain ⟨rfl, rfl⟩ := hA5.out
            have cH := hid (has_any A4 l2 c4 Y _ (by omega) w5 hIn)
            have HY := hid hY
            clear eA hA5 hIn hY hlc hc63
            by_cases hmem : Y ∈ l2
            · rw [decide_eq_true hmem] at cH
              clear hmem
              go_wp2_with fail
              refine cH.out.mono ?_
              rintro e w6 ⟨rfl, rfl⟩
              go_wp2_with fail
              go_ret
              exact ⟨_, l2, rfl, (HSN.out k3).check, HRow5.out, HC5'.out⟩
            · rw [decide_eq_false hmem] at cH
              have HNM : Hid (tabC.getD k3 [] ∉ l2) := hid (by rw [HY.out]; exact hmem)
              clear hmem
              go_wp2_with fail
              refine cH.out.mono ?_
              rintro e w6 ⟨rfl, rfl⟩
              go_wp2_with fail
              go_roundw
              case rel => exact ⟨k3, n - 1, l2, by first | rfl | go_num, by first | go_num | (rw [show ((n - 1 : Nat) : Int) = (n : Int) - 1 by omega]), hKK, by omega, hid (HSN.out k3), HNM.out |> hid, HRow5.out, hid HC5'.out⟩
              case measure => simp [RowKit.intOf]; omega
        · have hfz : decide ((l2.length : Int) < 16) = false := by simp; omega
          have hfz2 : decide (l2.length < 16) = false := by simp; omega
          have hck := HC5'.out.t k2 hK2
          have hK2z : (k2 : Int) < 16 := by omega
          obtain ⟨Y, hY⟩ : ∃ Y, tabC.getD k2 [] = Y := ⟨_, rfl⟩
          rw [hY] at hck
          obtain ⟨A5, c5, eA, hlc, hc63, hIn⟩ := StrRow.strsIn HRow5.out
          have hA5 : Hid (A4 = A5 ∧ c4 = c5) := hid (by injection eA with e1 _ e3; exact ⟨e1, e3⟩)
          obtain ⟨rfl, rfl⟩ := hA5.out
          have cH := hid (has_any A4 l2 c4 Y _ (by omega) w5 hIn)
          have HY := hid hY
          clear eA hA5 hIn hY hlc hc63
          by_cases hmem : Y ∈ l2
          · rw [decide_eq_true hmem] at cH
            clear hmem
            go_wp2_with fail
            refine cH.out.mono ?_
            rintro e w6 ⟨rfl, rfl⟩
            go_wp2_with fail
            go_ret
            exact ⟨_, l2, rfl, (HSN.out k2).check, HRow5.out, HC5'.out⟩
          · rw [decide_eq_false hmem] at cH
            have HNM : Hid (tabC.getD k2 [] ∉ l2) := hid (by rw [HY.out]; exact hmem)
            clear hmem
            go_wp2_with fail
            refine cH.out.mono ?_
            rintro e w6 ⟨rfl, rfl⟩
            go_wp2_with fail
            go_roundw
            case rel => exact ⟨k2, n - 1, l2, by first | rfl | go_num, by first | go_num | (rw [show ((n - 1 : Nat) : Int) = (n : Int) - 1 by omega]), hK2, by omega, hid (HSN.out k2), HNM.out |> hid, HRow5.out, hid HC5'.out⟩
            case measure => simp [RowKit.intOf]; omega
    · have hstop : (decide ((0 : Int) < (n : Int)) && decide ((l.length : Int) < 16)) = false := by simp; omega
      by_cases hn0 : n = 0
      · subst hn0
        go_wp2_with fail
        go_ret
        exact ⟨_, l, rfl, hM.out.check, HRow.out, hC.out⟩
      · have hnz : (0 : Int) < (n : Int) := by omega
        have hfz : ¬ (l.length : Int) < 16 := by omega
        go_wp2_with fail
        go_ret
        exact ⟨_, l, rfl, hM.out.check, HRow.out, hC.out⟩
end Go.Proofs.YtldnbneblpebiaaGreatDoor
