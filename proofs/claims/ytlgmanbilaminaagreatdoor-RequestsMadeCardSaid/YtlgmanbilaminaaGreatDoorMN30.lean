/-
  The walk of Dice.Classes: classes as they are made. Conditions: dice in memory, behind the table of features; a grid of at most 100 days and slots, at most 20 .. Conditions: as stated.
-/
import Derived.Test.YtlgmanbilaminaaGreatDoorMN29
set_option linter.unusedVariables false
namespace Go.Proofs.YtlgmanbilaminaaGreatDoor.S10
open Go Go.Proofs Go.RowKit Go.Lib Go.Proofs.YtlgmanbilaminaaGreatDoor
def StaffIn (w : World) (As : Option Addr) (names : List Str) : Prop := names = [] ∨ ∃ b off, As = some ⟨b, off, none⟩ ∧ b < w.heap.size ∧ ∀ (j : Nat) (s : Str), names[j]? = some s → w.cell? ⟨b, off + j * 2, none⟩ = some (.string (ba s))
theorem StaffIn.at_ {w w' : World} {As : Option Addr} {names : List Str} (h : StaffIn w As names) (hb : Below w.heap.size w w') {k : Nat} (hk : k < names.length) : ∃ b off, As = some ⟨b, off, none⟩ ∧ w'.cell? ⟨b, off + k * 2, none⟩ = some (.string (ba names[k])) := by
  rcases h with h | ⟨b, off, hA, hP, hc⟩
  · subst h; simp at hk
  · exact ⟨b, off, hA, (World.cell?_of_block (w := w) (hb.block b hP)).trans (hc k _ (List.getElem?_eq_getElem hk))⟩
structure KLC (w0 : World) (g c : Nat) (A : Option Addr) (L : List Int) (d s b m : Int) (n FB fo fc : Nat) (names : List Str) (nv : Value) (ls : List ClassD) (v : Value) (w : World) : Prop where
  x : Cells4 52 w w0.heap.size d s b m
  e : ∃ k, DE w0 g c A L k w
  nm : S3.StrRow w (w0.heap.size + 1) nv names
  row : ∃ Lr : List (ClassD × ClassA), Lr.map (·.1) = ls ∧ w.ownsRow (w0.heap.size + 1) 95 9 v Lr.length (clsVals Lr) ∧ ∀ p ∈ Lr, ClassIn w (fun k => w0.heap.size + 1 ≤ k ∧ k < w.heap.size ∧ some k ≠ v.ownBlock) p.1 p.2
  f : FeatAt w FB fo fc
  g0 : g < w0.heap.size
  g1 : 0 < g
  g2 : FB < g
  ok : ClassesOk d s n names ls
section
variable {w0 w w' : World} {g c : Nat} {A : Option Addr} {L : List Int} {d s b m : Int} {n FB fo fc : Nat} {names : List Str} {nv : Value} {ls : List ClassD} {v v' : Value}
theorem KLC.played {k' : Nat} (h : KLC w0 g c A L d s b m n FB fo fc names nv ls v w) (he : DE w g c A L k' w') : KLC w0 g c A L d s b m n FB fo fc names nv ls v w' := by
  obtain ⟨k, h0⟩ := h.e
  have hg := h.g0
  have hg1 := h.g1
  have hg2 := h.g2
  have hl := h.x.lt
  have hz := he.p.size
  obtain ⟨Lr, hL, ho, hr⟩ := h.row
  exact ⟨(he.p.block _ hl (by omega)).trans h.x, ⟨k', h0.trans he⟩, he.p.row h.nm (fun k hk => by have h1 := World.ownsRow.lt h.nm k hk; omega), ⟨Lr, hL, he.p.row ho (fun k hk => by have h1 := World.ownsRow.lt ho k hk; omega), fun q hq => ((hr q hq).kept (fun k hk => he.p.block k hk.2.1 (by omega))).mono (fun k hk => ⟨hk.1, by omega, hk.2.2⟩)⟩,
    h.f.kept (he.p.block _ (by omega) (by omega)) (he.p.block _ (by omega) (by omega)), hg, hg1, hg2, h.ok⟩
theorem KLC.dice (h : KLC w0 g c A L d s b m n FB fo fc names nv ls v w) : ∃ k, DiceAt w g A L c k := by
  obtain ⟨k, h0⟩ := h.e
  exact ⟨k, h0.d⟩
theorem KLC.size (h : KLC w0 g c A L d s b m n FB fo fc names nv ls v w) : w0.heap.size + 1 ≤ w.heap.size := by have := h.x.lt; omega
theorem KLC.app {r : ClassD} {q : ClassA} {C : Nat} (h : KLC w0 g c A L d s b m n FB fo fc names nv ls v w)
    (hr' : ClassIn w (fun k => C ≤ k ∧ k < w.heap.size) r q) (hC : w0.heap.size + 1 ≤ C) (h1 : ∀ k, v.ownBlock = some k → k < C)
    {Lr : List (ClassD × ClassA)} (hL : Lr.map (·.1) = ls) (ho : w.ownsRow (w0.heap.size + 1) 95 9 v Lr.length (clsVals Lr)) (hr : ∀ p ∈ Lr, ClassIn w (fun k => w0.heap.size + 1 ≤ k ∧ k < w.heap.size ∧ some k ≠ v.ownBlock) p.1 p.2)
    (hown : w'.ownsRow (w0.heap.size + 1) 95 9 v' (Lr.length + 1) (clsVals Lr ++ clsVs r q))
    (hg : w.grownBy w' v.ownBlock) (hat : v'.ownBlock = v.ownBlock ∨ v'.ownBlock = some w.heap.size) (hk : ClassesOk d s n names (ls ++ [r])) : KLC w0 g c A L d s b m n FB fo fc names nv (ls ++ [r]) v' w' := by
  obtain ⟨j, h0⟩ := h.e
  have hg0 := h.g0
  have hg1 := h.g1
  have hg2 := h.g2
  have hl := h.x.lt
  have hs := hg.size
  have hb : Below (w0.heap.size + 1) w w' := (Below.refl _ w).grown hg (by omega) (fun k hk => (World.ownsRow.lt ho k hk).1)
  have hne : ∀ k, k < w.heap.size → some k ≠ v.ownBlock → some k ≠ v'.ownBlock := by
    intro k hk hne
    rcases hat with e | e
    · rw [e]; exact hne
    · rw [e]; intro e0; injection e0 with e0; omega
  refine ⟨(hb.block _ (by omega)).trans h.x, ⟨j, h0.below (hb.mono (by omega)) hg0⟩, h.nm.kept hg (kinds_ne h.nm ho (by decide)), ⟨Lr ++ [(r, q)], by rw [List.map_append, hL]; rfl, ?_, fun p hp' => ?_⟩, h.f.kept (hb.block _ (by omega)) (hb.block _ (by omega)), hg0, hg1, hg2, hk⟩
  · rw [clsVals_app, List.length_append, List.length_singleton]
    simpa [clsVals] using hown
  · rcases List.mem_append.1 hp' with hp' | hp'
    · exact ((hr p hp').kept (fun k hk => hg.block k hk.2.1 hk.2.2)).mono (fun k hk => ⟨hk.1, by omega, hne k hk.2.1 hk.2.2⟩)
    · rw [List.mem_singleton] at hp'
      subst hp'
      have k1 : ∀ k, C ≤ k → some k ≠ v.ownBlock := fun k hk e => by have := h1 k e.symm; omega
      exact (hr'.kept (fun k hk => hg.block k hk.2 (k1 k hk.1))).mono (fun k hk => ⟨by omega, by omega, hne k hk.2 (k1 k hk.1)⟩)
end
theorem ClassesOk.app {d s : Int} {n : Nat} {names : List Str} {ls : List ClassD} {x : ClassD} (h : ClassesOk d s n names ls) (hl : ls.length < 6) (hx : ClassOk d s n names (codeS ls.length) x) : ClassesOk d s n names (ls ++ [x]) := by
  refine ⟨by simp; omega, fun j y hj => ?_⟩
  rcases Nat.lt_trichotomy j ls.length with k | k | k
  · rw [List.getElem?_append_left k] at hj
    exact h.at_ j y hj
  · subst k
    rw [List.getElem?_append_right (Nat.le_refl _)] at hj
    simp at hj
    subst hj
    exact hx
  · rw [List.getElem?_append_right (by omega)] at hj
    rw [List.getElem?_eq_none (by simp; omega)] at hj
    simp at hj
theorem cls_cells (w : World) (x : ClassD) (q : ClassA) : ∀ (j : Nat) (u : Value), (clsVs x q)[j]? = some u → (w.alloc (.cells (cArr x q) 95)).cell? ((⟨w.heap.size, 0, none⟩ : Addr).add j) = some u := by
  intro j u h
  rw [Addr.add_lit, Lib.cell_of_heap (heap_alloc_new w _)]
  have e : (cArr x q).toList = clsVs x q := rfl
  rw [← e] at h
  simpa using h
def ClassesP (d s : Int) (n most : Nat) (names : List Str) (g c : Nat) (A : Option Addr) (L : List Int) (w0 : World) (e : Ending) (w' : World) : Prop :=
  ∃ (ls : List ClassD) (v : Value) (k' : Nat), e = .returned v ∧ ls.length ≤ most ∧ ClassesOk d s n names ls ∧ ClassRow w' w0.heap.size (fun k => w0.heap.size ≤ k ∧ k < w'.heap.size) v ls ∧ DE w0 g c A L k' w'
set_option maxHeartbeats 32000000 in
set_option maxRecDepth 100000 in
theorem classes_any (g c k FB fo fc : Nat) (A : Option Addr) (L : List Int) (d s b m : Int) (n most : Nat) (h1 : 1 ≤ n) (h2 : n ≤ 20) (hd1 : 1 ≤ d) (hd2 : d ≤ 100) (hs1 : 1 ≤ s) (hs2 : s ≤ 100) (hm6 : most ≤ 6) (As : Option Addr) (names : List Str) (cs : Nat) (hnl : names.length ≤ 100) (w : World) (h : DiceAt w g A L c k)
    (hS : StaffIn w As names) (hF : FeatAt w FB fo fc) (hg1 : 0 < g) (hg2 : FB < g) :
    Calls Tryz.prog 25 #[.pointer (some ⟨g, 0, none⟩), .agg #[.int .i64 d, .int .i64 s, .int .i64 b, .int .i64 m], .int .i64 (n : Int), .slice As names.length cs, .int .i64 (most : Int)] w (ClassesP d s n most names g c A L w) := by
  obtain ⟨iC, hiC, hzC, hsiC, hbyC⟩ := info_parts infoClass
  obtain ⟨i9, hi9, hz9, hsi9, hby9⟩ := info_parts S3.infoStr
  have HCl := hid (fun (W : World) (code : Str) k (hd : DiceAt W g A L c k) (hf : FeatAt W FB fo fc) => class_any g c k FB fo fc A L d s b m n code h1 h2 hd1 hd2 hs1 hs2 W hd hf hg1 hg2)
  have HSm := hid (fun (W : World) (Aa : Option Addr) (ca k : Nat) (hd : DiceAt W g A L c k) (hs : S3.StrsIn W (fun b => b < W.heap.size ∧ b ≠ g) Aa names) => some_any g c k A L 2 (by omega) (by omega) Aa names ca W hd hs hnl)
  have HN := hid (fun (W : World) k q hq (h : DiceAt W g A L c k) => next_any g c k A L q hq W h)
  have qm : IntKind.i64.wrap ((most : Int) + 1) = (most : Int) + 1 := IntWalk.i64_in _ (by omega)
  have hx1 := Cells4.new w d s b m 52
  have hb1 := (Below.refl w.heap.size w).alloc (Nat.le_refl _) (.cells #[.int .i64 d, .int .i64 s, .int .i64 b, .int .i64 m] 52)
  have he1 := (DE.first h).alloc (.cells #[.int .i64 d, .int .i64 s, .int .i64 b, .int .i64 m] 52)
  have hgl := h.lt
  obtain ⟨w1, hw1⟩ : ∃ W, w.alloc (.cells #[.int .i64 d, .int .i64 s, .int .i64 b, .int .i64 m] 52) = W := ⟨_, rfl⟩
  rw [hw1] at hx1 hb1 he1
  have HX1 := hid hx1
  have HB1 := hid hb1
  have HE1 := hid he1
  have HST := hid hS
  have HFT := hid hF
  have HW1 := hid hw1
  have HG := hid (And.intro hg1 (And.intro hg2 hgl))
  obtain ⟨SN, hSN⟩ : ∃ SN, names.length = SN := ⟨_, rfl⟩
  have HSN := hid hSN
  rw [hSN] at hnl ⊢
  have hsz1 : w1.heap.size = w.heap.size + 1 := by rw [← hw1]; simp
  have HZ1 := hid hsz1
  clear h hS hF hg1 hg2 hx1 hb1 he1 hw1 hgl hSN hsz1
  go_enter Tryz.func25, Tryz.ntmps25
  go_wp2
  (try rw [HW1.out])
  go_loopw [11, 12] (fun nv iv wr => ∃ (i : Nat) (Ar : Option Addr) (cr : Nat), nv = .slice Ar i cr ∧ iv = .int .i64 (i : Int) ∧ i ≤ SN ∧ Hid (wr.ownsRow (w.heap.size + 1) 9 1 (.slice Ar i cr) i (S3.strVals (names.take i))) ∧ Hid (Below (w.heap.size + 1) w1 wr)) (fun _ iv _ => SN - (RowKit.intOf iv).toNat)
  case atStart => exact ⟨0, none, 0, rfl, rfl, Nat.zero_le _, hid (by rw [List.take_zero]; exact World.ownsRow_nil _ _ _ _), hid (Below.refl _ _)⟩
  case round =>
    obtain ⟨i, Ar, cr, rfl, rfl, hi, hrow, hBw⟩ := hrel
    by_cases hlt : i < SN
    · have hltz : (i : Int) < (SN : Int) := by omega
      have dk : decide (SN ≤ i) = false := decide_eq_false (by omega)
      have hin : i < names.length := by rw [HSN.out]; exact hlt
      obtain ⟨bS, oS, rfl, yS⟩ := HST.out.at_ (HB1.out.trans (hBw.out.mono (by omega))) hin
      obtain ⟨X, hX⟩ : ∃ X, names[i] = X := ⟨_, rfl⟩
      rw [hX] at yS
      have HNX : Hid (names.take (i + 1) = names.take i ++ [X]) := hid (by rw [← hX]; exact List.take_succ_eq_append_getElem hin)
      have HC3 : Hid (i + 1 ≤ maxLen) := by unfold maxLen; exact hid (by omega)
      have HC4 : Hid ((i + 1) * 16 ≤ 140737488355328) := hid (by omega)
      have HC5 : Hid (∀ o : Obj, w.heap.size + 1 ≤ (wr.alloc o).heap.size) := hid (fun o => by have := hBw.out.size; have := HZ1.out; simp; omega)
      clear hX hin
      go_wp2_with (at_builtin; refine wpList_append_own _ rfl _ _ 40 rfl (w.heap.size + 1) 9 i9 (.string ⟨#[]⟩) 1 16 Tryz.underlying40 hi9 hz9 hsi9 hby9 rfl (by decide) _ i (S3.strVals (names.take i)) rfl (World.ownsRow.alloc hrow.out _) ⟨wr.heap.size, 0, none⟩ 1 1 [.string (ba X)] rfl rfl (one_new _ _ _) (S3.one_str _) HC3.out HC4.out (HC5.out _) ?_)
      intro v' w4 hown' hgrow _
      have hg' := grownBy_of_alloc hgrow
      obtain ⟨A6, c6, rfl⟩ := S3.row_slice hown'
      have hrow6 : w4.ownsRow (w.heap.size + 1) 9 1 (.slice A6 (i + 1) c6) (i + 1) (S3.strVals (names.take (i + 1))) := by
        rw [HNX.out, S3.strVals_app]
        exact hown'
      have HR6 := hid hrow6
      have HB6 : Hid (Below (w.heap.size + 1) w1 w4) := hid (hBw.out.grown hg' (by have := hBw.out.size; have := HZ1.out; omega) (fun k hk => (World.ownsRow.lt hrow.out k hk).1))
      clear hown' hgrow hg' hrow6 HC3 HC4 HC5 hrow hBw yS HNX
      go_wp2
      go_roundw
      case rel => exact ⟨i + 1, A6, c6, rfl, by go_num, by omega, HR6, HB6⟩
      case measure => simp [RowKit.intOf]; omega
    · have hltz : ¬ (i : Int) < (SN : Int) := by omega
      obtain rfl : i = SN := by omega
      have hk0 : ∃ k, KLC w g c A L d s b m n FB fo fc names (.slice Ar i cr) [] (.slice none 0 0) wr ∧ DiceAt wr g A L c k := by
        have hb := HB1.out.trans (hBw.out.mono (by omega))
        have he := HE1.out.below (hBw.out.mono (by omega)) HG.out.2.2
        have hr := hrow.out
        rw [List.take_of_length_le (by rw [HSN.out]; exact Nat.le_refl _)] at hr
        refine ⟨_, ⟨(hBw.out.block _ (by omega)).trans HX1.out, ⟨_, he⟩, ?_, ⟨[], rfl, World.ownsRow_nil _ _ _ _, fun p hp => by simp at hp⟩, HFT.out.kept (hb.block _ (by have := HG.out; omega)) (hb.block _ (by have := HG.out; omega)), HG.out.2.2, HG.out.1, HG.out.2.1, ⟨by simp, fun j x hj => by simp at hj⟩⟩, he.d⟩
        unfold S3.StrRow
        rw [HSN.out]
        exact hr
      obtain ⟨k0, hk0, hd0⟩ := hk0
      have HK0 := hid hk0
      have cN := hid (HN.out _ k0 ((most : Int) + 1) (by omega) hd0)
      clear hk0 hd0 hrow hBw HN
      go_wp2_with fail
      refine cN.out.mono ?_
      rintro e w2 ⟨⟨r, rfl, hr⟩, ⟨k1, hd⟩, hR⟩
      obtain ⟨hr0, hr1⟩ := hr (by omega)
      obtain ⟨q0, rfl⟩ : ∃ q : Nat, r = (q : Int) := ⟨r.toNat, by omega⟩
      have HK2 : Hid (KLC w g c A L d s b m n FB fo fc names (.slice Ar i cr) [] (.slice none 0 0) w2) := hid (by
        obtain ⟨k9, h9⟩ := HK0.out.dice
        exact HK0.out.played ((DE.first h9).next hd hR))
      clear hr hd hR HK0 cN qm
      go_wp2
      go_loopw [13, 14] (fun v nv wr => ∃ (q j : Nat) (ls : List ClassD) (Al : Option Addr) (cl : Nat), v = .slice Al j cl ∧ nv = .int .i64 (q : Int) ∧ q + j ≤ most ∧ Hid (ls.length = j) ∧ Hid (KLC w g c A L d s b m n FB fo fc names (.slice Ar i cr) ls (.slice Al j cl) wr)) (fun _ nv _ => (RowKit.intOf nv).toNat)
      case atStart => exact ⟨q0, 0, [], none, 0, rfl, rfl, by omega, hid rfl, HK2⟩
      case round =>
        obtain ⟨q, j, ls, Al, cl, rfl, rfl, hq, hlj, hK⟩ := hrel
        clear HK2
        by_cases hz : 0 < q
        · have hqz : (0 : Int) < (q : Int) := by omega
          have qn : IntKind.i64.wrap ((q : Int) - 1) = (q : Int) - 1 := IntWalk.i64_in _ (by omega)
          have qa : IntKind.i64.wrap (49 + (j : Int)) = 49 + (j : Int) := IntWalk.i64_in _ (by omega)
          have qb : IntKind.u8.wrap (49 + (j : Int)) = 49 + (j : Int) := by rcases (show j = 0 ∨ j = 1 ∨ j = 2 ∨ j = 3 ∨ j = 4 ∨ j = 5 by omega) with rfl | rfl | rfl | rfl | rfl | rfl <;> rfl
          have hcv : (Go.convert 59 9 (.slice (some ⟨wr.heap.size, 0, none⟩) 1 1)).run Tryz.prog (wr.alloc (.cells #[.int .u8 (49 + (j : Int))] 5)) = .ok (.string ⟨#[UInt8.ofNat (49 + j)]⟩) (wr.alloc (.cells #[.int .u8 (49 + (j : Int))] 5)) := by
            have ho := World.ownsRow_lit (base := wr.heap.size) (e := 5) (size := 1) wr #[.int .u8 (49 + (j : Int))] 1 (Nat.le_refl _) (by unfold maxLen; omega) rfl
            have e : #[Value.int .u8 (49 + (j : Int))].toList = byteCells [UInt8.ofNat (49 + j)] := by
              rcases (show j = 0 ∨ j = 1 ∨ j = 2 ∨ j = 3 ∨ j = 4 ∨ j = 5 by omega) with rfl | rfl | rfl | rfl | rfl | rfl <;> rfl
            rw [e] at ho
            exact row_string (P := Tryz.prog) (l := [UInt8.ofNat (49 + j)]) ho 59 5 9 Tryz.underlying59 Tryz.underlying5 Tryz.underlying9
          have hadd : ∀ w, (Op.stringOp .add (⟨#[99]⟩ : ByteArray) ⟨#[UInt8.ofNat (49 + j)]⟩).run Tryz.prog w = .ok (.string (ba (codeS j))) w := fun w => run_string_add_sum (w := w) _ _ (by show (1 : Nat) + 1 ≤ 9223372036854775807; omega)
          have HCD : Hid ((⟨#[99]⟩ : ByteArray) ++ ⟨#[49 + UInt8.ofNat j]⟩ = ba (codeS j)) := hid (by rcases (show j = 0 ∨ j = 1 ∨ j = 2 ∨ j = 3 ∨ j = 4 ∨ j = 5 by omega) with rfl | rfl | rfl | rfl | rfl | rfl <;> rfl)
          obtain ⟨g0, g1, g2, g3, _⟩ := hK.out.x.box
          obtain ⟨k2, hd2'⟩ := hK.out.dice
          have hde := (DE.first hd2').alloc (.cells #[.int .u8 (49 + (j : Int))] 5)
          have hfe := hK.out.f.kept (w' := wr.alloc (.cells #[.int .u8 (49 + (j : Int))] 5)) (heap_alloc_old wr _ (by have := hK.out.x.lt; have := HG.out; omega)) (heap_alloc_old wr _ (by have := hK.out.x.lt; have := HG.out; omega))
          have cCl := hid (HCl.out _ (codeS j) _ hde.d hfe)
          have HDE := hid hde
          clear hd2' hde hfe
          go_wp2_with fail
          rw [HCD.out]
          refine cCl.out.mono ?_
          rintro e w3 ⟨x, qx, k3, rfl, hok, hin, he⟩
          have hgC : g < wr.heap.size := by have := hK.out.x.lt; have := HG.out; omega
          have HIN : Hid (ClassIn w3 (fun k => wr.heap.size ≤ k ∧ k < w3.heap.size) x qx) := hid (hin.mono (fun k hk => ⟨by have := hk.1; simp at this; omega, hk.2⟩))
          have hd3 := HDE.out.trans he
          have HC3 : Hid (wr.heap.size ≤ w3.heap.size) := hid hd3.p.size
          have hd4 := hd3.alloc (.cells (cArr x qx) 95)
          have HD4 := hid hd4
          have HOK := hid hok
          have HGC := hid hgC
          have hk4 := hK.out.played hd4
          obtain ⟨An, cn, en, hn1, hn2, hnin⟩ := S3.StrRow.strsIn hk4.nm
          injection en with en1 en0 en2
          clear en0
          subst en1 en2
          have cSm := hid (HSm.out (w3.alloc (.cells (cArr x qx) 95)) Ar cr _ hd4.d (hnin.mono (fun k hk => ⟨hk.2, by have := hk.1; have := HG.out; omega⟩)))
          rw [HSN.out] at cSm
          clear hok hin he hd3 hd4 hgC hk4 hn1 hn2 hnin g0 g1 g2 g3 cCl HDE hcv hadd qa qb
          have HNW : Hid ((w3.alloc (.cells #[.string ⟨#[]⟩, .string ⟨#[]⟩, .string ⟨#[]⟩, .int .i64 0, .slice none 0 0, .int .i64 0, .slice none 0 0, .slice none 0 0, .slice none 0 0] 95)).heap[w3.heap.size]? = some (.cells #[.string ⟨#[]⟩, .string ⟨#[]⟩, .string ⟨#[]⟩, .int .i64 0, .slice none 0 0, .int .i64 0, .slice none 0 0, .slice none 0 0, .slice none 0 0] 95 (0, 0))) := hid (heap_alloc_new w3 _)
          have HRW := hid (World.setRow_alloc_new w3 #[.string ⟨#[]⟩, .string ⟨#[]⟩, .string ⟨#[]⟩, .int .i64 0, .slice none 0 0, .int .i64 0, .slice none 0 0, .slice none 0 0, .slice none 0 0] (cArr x qx) 95)
          go_upto_region 11 with (refine wpList_store_row rfl 95 (.tmp 15) (.tmp 48) rfl w3.heap.size (cArr x qx) rfl rfl 95 #[.string ⟨#[]⟩, .string ⟨#[]⟩, .string ⟨#[]⟩, .int .i64 0, .slice none 0 0, .int .i64 0, .slice none 0 0, .slice none 0 0, .slice none 0 0] HNW.out (by kernel_rfl) rfl (cArr_one x qx) ?_)
          rw [HRW.out]
          have hsz4 : (w3.alloc (.cells (cArr x qx) 95)).heap.size = w3.heap.size + 1 := by simp
          have hold4 : ∀ k, k < w3.heap.size → (w3.alloc (.cells (cArr x qx) 95)).heap[k]? = w3.heap[k]? := fun k hk => heap_alloc_old w3 _ hk
          have hbx4 := BoxC.new w3 (cArr x qx)
          generalize w3.alloc (.cells (cArr x qx) 95) = w4 at HD4 cSm hsz4 hold4 hbx4 ⊢
          have HSZ4 := hid hsz4
          have HOL4 := hid hold4
          have HBX4 := hid hbx4
          clear hsz4 hold4 hbx4 HRW HNW
          go_wp2_with fail
          refine cSm.out.mono ?_
          rintro e w5 ⟨ss, vS, k5, rfl, hsub, hrow, he5⟩
          obtain ⟨A7, c7, ev7, h71, h72, h73⟩ := S3.StrRow.strsIn hrow
          subst ev7
          have hC3 := HC3.out
          obtain ⟨CN, hCN⟩ : ∃ k, w3.heap.size = k := ⟨_, rfl⟩
          have hbx5 : BoxC w5 CN (cArr x qx) := by rw [← hCN]; exact HBX4.out.kept (he5.p.block _ (by have := HSZ4.out; omega) (by have := HGC.out; have := hC3; omega))
          have HIN5 : Hid (∀ k, wr.heap.size ≤ k → k < CN → w5.heap[k]? = w3.heap[k]?) := hid (fun k hk1 hk2 => (he5.p.block k (by have := HSZ4.out; omega) (by have := HGC.out; omega)).trans (HOL4.out k (by omega)))
          have HD6 : Hid (DE wr g c A L k5 (w5.setCell ⟨CN, 7, none⟩ (.slice A7 ss.length c7))) := hid ((HD4.out.trans he5).set CN 7 _ (by omega) (by have := HGC.out; omega))
          have HSS : Hid (S3.StrsIn w5 (fun b => CN + 1 ≤ b ∧ b < w5.heap.size) A7 ss ∧ ss.length ≤ c7 ∧ c7 ≤ 9223372036854775807 ∧ ss.Sublist names) := hid ⟨h73.mono (fun k hk => ⟨by have := HSZ4.out; have := hk.1; omega, hk.2⟩), h71, h72, hsub⟩
          have hbx6 : BoxC (w5.setCell ⟨CN, 7, none⟩ (.slice A7 ss.length c7)) CN (cArr { x with staff := ss } { qx with aS := A7, cS := c7 }) := hbx5.put 7 _
          have HBX6 := hid hbx6
          have HCN := hid hCN
          have hk5 := hbx5
          unfold cArr at hk5
          obtain ⟨y0, y1, y2, y3, y4, y5, y6, y7, y8⟩ := hk5.cells
          have f7 := hbx5.free 7
          rw [hCN]
          clear hsub hrow he5 h71 h72 h73 hC3 hbx5 hbx6 hk5 hCN cSm
          go_upto_region 12 with fail
          have hk6 := HBX6.out
          obtain ⟨x', hx'⟩ : ∃ x', ({ x with staff := ss } : ClassD) = x' := ⟨_, rfl⟩
          obtain ⟨q', hq'⟩ : ∃ q', ({ qx with aS := A7, cS := c7 } : ClassA) = q' := ⟨_, rfl⟩
          have hin6 : ∀ o : Obj, ClassIn ((w5.setCell ⟨CN, 7, none⟩ (.slice A7 ss.length c7)).alloc o) (fun k => wr.heap.size ≤ k ∧ k < ((w5.setCell ⟨CN, 7, none⟩ (.slice A7 ss.length c7)).alloc o).heap.size) x' q' := fun o => by
            have hz5 : w5.heap.size ≤ ((w5.setCell ⟨CN, 7, none⟩ (.slice A7 ss.length c7)).alloc o).heap.size := by simp [World.setCell]
            have hsz5 : (w5.setCell ⟨CN, 7, none⟩ (.slice A7 ss.length c7)).heap.size = w5.heap.size := by simp [World.setCell]
            have hlt5 := HBX6.out.lt
            rw [hsz5] at hlt5
            have e5 : ∀ k, k ≠ CN → k < w5.heap.size → ((w5.setCell ⟨CN, 7, none⟩ (.slice A7 ss.length c7)).alloc o).heap[k]? = w5.heap[k]? := fun k hk hl => (heap_alloc_old _ _ (by rw [hsz5]; exact hl)).trans (Below.heap_setCell _ ⟨CN, 7, none⟩ _ k hk)
            have hc := HCN.out
            have h3 := (HIN.out.kept (w' := (w5.setCell ⟨CN, 7, none⟩ (.slice A7 ss.length c7)).alloc o) (fun k hk => (e5 k (by have := hk.2; omega) (by have := hk.2; omega)).trans (HIN5.out k hk.1 (by have := hk.2; omega)))).mono (P' := fun k => wr.heap.size ≤ k ∧ k < ((w5.setCell ⟨CN, 7, none⟩ (.slice A7 ss.length c7)).alloc o).heap.size) (fun k hk => ⟨hk.1, by have := hk.2; omega⟩)
            have hs5 := (HSS.out.1.kept (w' := (w5.setCell ⟨CN, 7, none⟩ (.slice A7 ss.length c7)).alloc o) (fun k hk => e5 k (by have := hk.1; omega) hk.2)).mono (P' := fun k => wr.heap.size ≤ k ∧ k < ((w5.setCell ⟨CN, 7, none⟩ (.slice A7 ss.length c7)).alloc o).heap.size) (fun k hk => ⟨by have := hk.1; have := HC3.out; omega, by have := hk.2; omega⟩)
            subst hx' hq'
            exact ⟨h3.p, h3.f, hs5, h3.t, h3.p1, h3.p2, h3.f1, h3.f2, HSS.out.2.1, HSS.out.2.2.1, h3.t1, h3.t2⟩
          have hok6 : ClassOk d s n names (codeS ls.length) x' := by
            rw [← hx', hlj.out]
            exact ⟨HOK.out.code, HOK.out.course, HOK.out.part, HOK.out.len, HOK.out.pats, HOK.out.seats, HOK.out.feats, HSS.out.2.2.2, HOK.out.starts⟩
          rw [hx', hq'] at hk6
          have HIN6 := hid hin6
          have HOK6 := hid hok6
          generalize World.setCell w5 _ _ = w6 at HD6 hk6 HIN6 ⊢
          unfold cArr at hk6
          clear y0 y1 y2 y3 y4 y5 y6 y7 y8 f7 hin6 hok6 HBX6 HSS HIN5 HIN HOK HOL4 HBX4 hx' hq'
          obtain ⟨y0, y1, y2, y3, y4, y5, y6, y7, y8⟩ := hk6.cells
          have hD7 := HD6.out.alloc (.cells (cArr x' q') 95)
          have hk7 := hK.out.played hD7
          obtain ⟨Lr, hL, ho, hr⟩ := hk7.row
          have hl0 : Lr.length = j := by rw [← hlj.out, ← hL, List.length_map]
          have ho' := ho
          rw [hl0] at ho'
          have HO' := hid ho'
          have HK7 := hid hk7
          have HLL := hid hL
          have HOO := hid ho
          have HRR := hid hr
          have HL0 := hid hl0
          have HM1 : Hid (j + 1 ≤ maxLen) := by unfold maxLen; exact hid (by omega)
          have HM2 : Hid ((j + 1) * 160 ≤ 140737488355328) := hid (by omega)
          have HBS : Hid (w.heap.size + 1 ≤ (w6.alloc (.cells (cArr x' q') 95)).heap.size) := hid (hk7.size)
          have HCC := hid (cls_cells w6 x' q')
          clear hk6 hD7 hk7 hL ho hr hl0 ho'
          go_wp2_with (at_builtin; refine wpList_append_own_at _ rfl _ _ 49 rfl (w.heap.size + 1) 95 iC (.agg #[.string ⟨#[]⟩, .string ⟨#[]⟩, .string ⟨#[]⟩, .int .i64 0, .slice none 0 0, .int .i64 0, .slice none 0 0, .slice none 0 0, .slice none 0 0]) 9 160 Tryz.underlying49 hiC hzC hsiC hbyC rfl (by decide) (.slice Al j cl) j (clsVals Lr) rfl HO'.out ⟨w6.heap.size, 0, none⟩ 1 1 (clsVs x' q') rfl rfl HCC.out (cls_one x' q') HM1.out HM2.out HBS.out ?_)
          intro v' w8 hown hgrow _ hat
          obtain ⟨gA, cA, rfl⟩ := S3.row_slice hown
          have hv : ∀ k, (Value.slice Al j cl).ownBlock = some k → k < wr.heap.size := by
            obtain ⟨Lr, hL, ho, hr⟩ := hK.out.row
            exact fun k hk => (World.ownsRow.lt ho k hk).2
          have HA := hid (KLC.app (C := wr.heap.size) (r := x') (q := q') HK7.out (HIN6.out _) hK.out.size hv HLL.out HOO.out HRR.out (by rw [HL0.out]; exact hown) hgrow (by rcases hat with h | h; exact .inl h; exact .inr (by rw [h]; simp)) (hK.out.ok.app (by rw [hlj.out]; omega) HOK6.out))
          clear hown hgrow hat hv HK7 HLL HOO HRR HO' HIN6 HOK6 HD6 y0 y1 y2 y3 y4 y5 y6 y7 y8 HM1 HM2 HBS HCC
          go_wp2
          go_roundw
          case rel => exact ⟨q - 1, j + 1, ls ++ [x'], _, _, rfl, by congr 1; omega, by omega, hid (by rw [List.length_append, hlj.out]; rfl), HA⟩
          case measure => simp [RowKit.intOf]; omega
        · have hqz : ¬ (0 : Int) < (q : Int) := by omega
          obtain ⟨k2, he2⟩ := hK.out.e
          obtain ⟨Lr, hL, ho, hr⟩ := hK.out.row
          have hl0 : Lr.length = ls.length := by rw [← hL, List.length_map]
          have HR : Hid (ClassesP d s n most names g c A L w (.returned (.slice Al j cl)) wr) := hid ⟨ls, _, k2, rfl, by rw [hlj.out]; omega, hK.out.ok, ⟨Lr, hL, by rw [← hl0]; exact rowLow ho (by omega), fun p hp => (hr p hp).mono (fun k hk => ⟨by omega, hk.2.1⟩)⟩, he2⟩
          clear he2 hK hL ho hr hl0
          go_wp2
          go_ret
          exact HR.out
end Go.Proofs.YtlgmanbilaminaaGreatDoor.S10
