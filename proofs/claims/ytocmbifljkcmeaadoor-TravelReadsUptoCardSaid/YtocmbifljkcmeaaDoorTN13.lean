/-
  Read of the specification. Condition: the records lie in memory.
-/
import Derived.Test.YtocmbifljkcmeaaDoorTN01
import Derived.Test.YtocmbifljkcmeaaDoorTN02
import Derived.Test.YtocmbifljkcmeaaDoorTN03
import Derived.Test.YtocmbifljkcmeaaDoorTN04
import Derived.Test.YtocmbifljkcmeaaDoorTN05
import Derived.Test.YtocmbifljkcmeaaDoorTN06
import Derived.Test.YtocmbifljkcmeaaDoorTN07
import Derived.Test.YtocmbifljkcmeaaDoorTN08
import Derived.Test.YtocmbifljkcmeaaDoorTN09
import Derived.Test.YtocmbifljkcmeaaDoorTN10
import Derived.Test.YtocmbifljkcmeaaDoorTN11
import Derived.Test.YtocmbifljkcmeaaDoorTN12
import Derived.Test.YtocmbifljkcmeaaDoorProg
import Derived.WalkKit
import Derived.WalkSpells
import Derived.WalkLawsBesides
import Derived.Lib.Hide
import Derived.Deep.QuietTactic
import Derived.BigQuiet
import Derived.Laws.Rows
import Derived.OwnWalk
import Derived.Lib.BufferWrite
import Derived.Lib.UnsafeStr
import Derived.Laws.IdiomStrings
import Derived.Laws.BytesArg
import Derived.Laws.BytesString
import Derived.Laws.OwnMore
import Derived.Lib.IndexLaws
import Derived.Lib.ItoaNum
import Derived.Lib.Atoi
import Derived.Lib.Bytealg
import Derived.Handy
import Derived.Laws.ResultCell
import Derived.RegionTactic
import Derived.Deep.DeepCutAuto
import Derived.Deep.CutBlock
import Derived.Deep.RegionHeld3
import Derived.Deep.RegionLaw
import Derived.Deep.RegionWith
import Derived.Deep.AppendLies
import Derived.Maps.AppendAt
import Derived.StillTailTactics
import Derived.Shelf.Abstract
import Derived.Lib.SliceRun
import Derived.RangeFuncBox
import Derived.Lib.SlTrimSet
import Derived.Shelf.Strconv.Atoi
import Derived.Shelf.Strconv.Itoa0
import Derived.Shelf.Strconv.Itoa1
import Derived.Shelf.LaysM
import Derived.Shelf.Strconv.Itoa2
import Derived.Shelf.Strconv.Itoa3
import Derived.Shelf.Strconv.AtoiErrFast
import Derived.Shelf.Strconv.ParseIntEmpty
import Derived.Shelf.Strconv.AtoiFail
import Derived.Shelf.Strconv.Clone
import Derived.Shelf.Strconv.SyntaxError
import Derived.Shelf.LaysC
import Derived.Shelf.Strconv.ToError
import Derived.Shelf.Strconv.AtoiErr
import Derived.Shelf.Bits.Mul64
import Derived.Shelf.Slices.Turned
import Derived.Laws.CopyOwn
import Derived.Lib.AtoiErrMem
import Derived.ArgAppend
import Derived.Deep.DeepAppendRoom
import Derived.Deep.RegionLawGrows
set_option linter.unusedVariables false
namespace Go.Proofs.YtocmbifljkcmeaaDoor
open Go Go.Proofs Go.RowKit Go.Lib

theorem infoRWay : (Tryd.prog.info? 74).map (fun i => (i.zero, i.size, i.bytes)) = some (some (.agg #[.string ⟨#[]⟩, .string ⟨#[]⟩, .int .i64 0]), 3, 40) := by kernel_rfl
theorem one_new8 (w : World) (v : Value) (T : TypeId) : ∀ (j : Nat) (u : Value), ([v] : List Value)[j]? = some u → (w.alloc (.cells #[v] T)).cell? ((⟨w.heap.size, 0, none⟩ : Addr).add j) = some u := by
  intro j u h
  rw [Addr.add_lit]
  match j, h with
  | 0, h => exact (show _ = some v by rw [Lib.cell_of_heap (heap_alloc_new w _)]; rfl).trans h
  | j + 1, h => simp at h
theorem kinds_r8 {W : World} {B B' e e' z z' n n' : Nat} {v v' : Value} {xs xs' : List Value} (h : W.ownsRow B e z v n xs) (h' : W.ownsRow B' e' z' v' n' xs') (hne : e ≠ e') : v.ownBlock = none ∨ v.ownBlock ≠ v'.ownBlock := by
  cases hb : v.ownBlock with
  | none => exact .inl rfl
  | some g => exact .inr (fun e0 => kinds_ne8 h h' hne g hb e0.symm)
/-- What stands while records are read: ways, names, problems. -/
structure SR8 (w : World) (N : NetD) (ps : List ProbD) (v0 v1 v2 : Value) (W : World) : Prop where
  ways : WayRow W w.heap.size 74 v0 N.1
  strs : S3.StrRow W w.heap.size v1 N.2
  probs : ProbsRow W w.heap.size v2 ps
  below : Below w.heap.size w W
section
variable {w W W' : World} {N : NetD} {ps : List ProbD} {v0 v1 v2 : Value}
theorem SR8.start (w : World) : SR8 w ([], []) [] (.slice none 0 0) (.slice none 0 0) (.slice none 0 0) w :=
  ⟨World.ownsRow_nil _ _ _ _, World.ownsRow_nil _ _ _ _, World.ownsRow_nil _ _ _ _, Below.refl _ _⟩
theorem SR8.under (h : SR8 w N ps v0 v1 v2 W) (hb : Below W.heap.size W W') : SR8 w N ps v0 v1 v2 W' :=
  ⟨row_under h.ways hb, row_under h.strs hb, row_under h.probs hb, h.below.trans (hb.mono h.below.size)⟩
theorem SR8.way {v0' : Value} {x : WayD} (h : SR8 w N ps v0 v1 v2 W) (ho : WayRow W' w.heap.size 74 v0' (N.1 ++ [x])) (hg : W.grownBy W' v0.ownBlock) : SR8 w (N.1 ++ [x], N.2) ps v0' v1 v2 W' :=
  ⟨ho, World.ownsRow.kept h.strs hg (kinds_r8 h.strs h.ways (by decide)), World.ownsRow.kept h.probs hg (kinds_r8 h.probs h.ways (by decide)), h.below.grown hg h.below.size (fun k e => (World.ownsRow.lt h.ways k e).1)⟩
theorem SR8.name {v1' : Value} {x : Str} (h : SR8 w N ps v0 v1 v2 W) (ho : S3.StrRow W' w.heap.size v1' (N.2 ++ [x])) (hg : W.grownBy W' v1.ownBlock) : SR8 w (N.1, N.2 ++ [x]) ps v0 v1' v2 W' :=
  ⟨World.ownsRow.kept h.ways hg (kinds_r8 h.ways h.strs (by decide)), ho, World.ownsRow.kept h.probs hg (kinds_r8 h.probs h.strs (by decide)), h.below.grown hg h.below.size (fun k e => (World.ownsRow.lt h.strs k e).1)⟩
theorem SR8.prob {v2' : Value} {x : ProbD} (h : SR8 w N ps v0 v1 v2 W) (ho : ProbsRow W' w.heap.size v2' (ps ++ [x])) (hg : W.grownBy W' v2.ownBlock) : SR8 w N (ps ++ [x]) v0 v1 v2' W' :=
  ⟨World.ownsRow.kept h.ways hg (kinds_r8 h.ways h.probs (by decide)), World.ownsRow.kept h.strs hg (kinds_r8 h.strs h.probs (by decide)), ho, h.below.grown hg h.below.size (fun k e => (World.ownsRow.lt h.probs k e).1)⟩
theorem SR8.waysIn {A : Option Addr} {n c : Nat} (h : SR8 w N ps (.slice A n c) v1 v2 W) : n = N.1.length ∧ WaysIn W (fun b => w.heap.size ≤ b ∧ b < W.heap.size) A N.1 := by
  obtain ⟨A', c', hv, _, _, hin⟩ := h.ways.waysIn
  injection hv with e1 e2 _
  subst e1
  exact ⟨e2, hin⟩
theorem SR8.strsIn {A : Option Addr} {n c : Nat} (h : SR8 w N ps v0 (.slice A n c) v2 W) : n = N.2.length ∧ S3.StrsIn W (fun b => w.heap.size ≤ b ∧ b < W.heap.size) A N.2 ∧ N.2.length ≤ c ∧ c ≤ 9223372036854775807 := by
  obtain ⟨A', c', hv, h1, h2, hin⟩ := h.strs.strsIn
  injection hv with e1 e2 e3
  subst e1
  subst e3
  exact ⟨e2, hin, h1, h2⟩
theorem SR8.probsLen {A : Option Addr} {n c : Nat} (h : SR8 w N ps v0 v1 (.slice A n c) W) : n = ps.length := by
  rcases h.probs.2 with ⟨hv, h0⟩ | ⟨g, cap, cur, hv, _⟩
  · injection hv with _ h1 _; omega
  · injection hv with _ h1 _
end
set_option maxHeartbeats 16000000 in
set_option maxRecDepth 100000 in
theorem rread8_any (A : Option Addr) (l : List RecD) (c : Nat) (w : World) (h : RecsIn w (fun k => k < w.heap.size) A l) (hl : l.length ≤ 1073741824) :
    Calls Tryd.prog 17 #[.slice A l.length c] w (ReadOut8 (readT l) w) := by
  obtain ⟨i4, hi4, hz4, hs4, hb4⟩ := info_parts infoProb
  obtain ⟨i5, hi5, hz5, hs5, hb5⟩ := info_parts infoRWay
  obtain ⟨i9, hi9, hz9, hs9, hb9⟩ := info_parts S3.infoStr
  have hr1 := Box2.new w 25 (.slice none 0 0) (.slice none 0 0)
  have hb1 := (Below.refl w.heap.size w).alloc (Nat.le_refl _) (.cells #[.slice none 0 0, .slice none 0 0] 25)
  have hs1 : (w.alloc (.cells #[.slice none 0 0, .slice none 0 0] 25)).heap.size = w.heap.size + 1 := by simp
  obtain ⟨w1, hw1⟩ : ∃ W, w.alloc (.cells #[.slice none 0 0, .slice none 0 0] 25) = W := ⟨_, rfl⟩
  rw [hw1] at hr1 hb1 hs1
  have HR1 := hid hr1
  have HB1 := hid hb1
  have HS1 := hid hs1
  have HH := hid h
  clear h hr1 hb1 hs1
  unfold ReadOut8 readT
  obtain ⟨⟨N, PS⟩, hR⟩ : ∃ R, recsW l = R := ⟨_, rfl⟩
  have hnet := recsW_net l
  rw [hR] at hnet ⊢
  dsimp only at hnet ⊢
  have HNET := hid hnet
  have HR := hid hR
  clear hnet hR
  go_enter Tryd.func17, Tryd.ntmps17
  go_upto_region 1 with fail
  (try rw [hw1])
  clear hw1
  go_wp2
  go_loopw [4, 5, 6, 7, 8, 9, 10] (fun u0 u1 u2 iv _ _ _ wr => ∃ (i : Nat) (A0 : Option Addr) (n0 c0 : Nat) (A1 : Option Addr) (n1 c1 : Nat) (A2 : Option Addr) (n2 c2 : Nat), u0 = .slice A0 n0 c0 ∧ u1 = .slice A1 n1 c1 ∧ u2 = .slice A2 n2 c2 ∧ iv = .int .i64 (i : Int) ∧ i ≤ l.length ∧ Hid (SR8 w1 (recsW (l.take i)).1 (recsW (l.take i)).2 (.slice A0 n0 c0) (.slice A1 n1 c1) (.slice A2 n2 c2) wr)) (fun _ _ _ iv _ _ _ _ => l.length - (RowKit.intOf iv).toNat)
  case atStart => exact ⟨0, none, 0, 0, none, 0, 0, none, 0, 0, rfl, rfl, rfl, rfl, Nat.zero_le _, hid (SR8.start w1)⟩
  case round =>
    obtain ⟨i, A0, n0, c0, A1, n1, c1, A2, n2, c2, rfl, rfl, rfl, rfl, hi, hI⟩ := hrel
    have hwz := hI.out.below.size
    have hbw : Below w.heap.size w wr := HB1.out.trans (hI.out.below.mono (by have := HS1.out; omega))
    by_cases hlt : i < l.length
    · have hltz : (i : Int) < (l.length : Int) := by omega
      obtain ⟨fb, fo, A', c', rfl, hfb, hfi, hc1, hc2, y0, y1⟩ := (HH.out.below hbw).at_ hlt
      have hst := recsW_take l i hlt
      have hnt := recsW_net (l.take i)
      have hnt' := recsW_net (l.take (i + 1))
      have hpl := recsW_probs (l.take i)
      rw [List.length_take] at hpl hnt
      obtain ⟨⟨⟨ws, bs⟩, ps⟩, hst0⟩ : ∃ S, recsW (l.take i) = S := ⟨_, rfl⟩
      rw [hst0] at hst hnt hpl hI
      obtain ⟨⟨line, fs⟩, hx⟩ : ∃ X, l[i] = X := ⟨_, rfl⟩
      rw [hx] at hfi hc1 y0 y1 hst
      dsimp only at hfi hc1 y0 y1 hst hnt hpl hI
      have hon := one_same (ws, bs) ps line fs
      have hwsl := hnt.w
      have hbsl := hnt.b
      dsimp only at hwsl hbsl
      have hq0 := hI.out.waysIn
      have hq1 := hI.out.strsIn
      have hq2 := hI.out.probsLen
      dsimp only at hq0 hq1
      have hfi' := (hfi.mono (P' := fun k => k < wr.heap.size) (fun k hk => Nat.lt_of_lt_of_le hk hbw.size))
      have cR := one8_any line A' fs c' A0 ws c0 A1 bs c1 wr hfi' (hq0.2.mono (fun b hb => hb.2)) (hq1.2.1.mono (fun b hb => hb.2)) (by omega) (by omega) hbsl
      obtain ⟨⟨⟨x0, x1, n⟩, k, e0⟩, hO⟩ : ∃ o, oneR (ws, bs) fs = o := ⟨_, rfl⟩
      obtain ⟨F, hF⟩ : ∃ F, fs.length = F := ⟨_, rfl⟩
      rw [hO, hF, ← hq0.1, ← hq1.1] at cR
      rw [hO] at hon
      unfold OneOut8 wayV at cR
      dsimp only at cR hon
      obtain ⟨X0, hX0⟩ : ∃ X, ba x0 = X := ⟨_, rfl⟩
      obtain ⟨X1, hX1⟩ : ∃ X, ba x1 = X := ⟨_, rfl⟩
      rw [hX0, hX1] at cR
      rw [hF] at y1
      have HX0 := hid hX0
      have HX1 := hid hX1
      have HF := hid hF
      have CR := hid cR
      have HI := hid hI.out
      have HFI := hid hfi'
      have HBW := hid hbw
      have HWZ := hid hwz
      have HQ0 := hid hq0
      have HQ1 := hid hq1
      have HQ2 := hid hq2
      have HC := hid (And.intro hc1 hc2)
      have hn0 : n0 ≤ 1073741824 := by rw [hq0.1]; omega
      have hn1 : n1 ≤ 8 := by rw [hq1.1]; exact hbsl
      have hn2 : n2 ≤ 1073741824 := by rw [hq2]; omega
      have hd : decide (l.length ≤ i) = false := decide_eq_false (by omega)
      clear hI hwz hbw hfi hfi' hc1 hc2 hnt hpl hx hst0 hq0 hq1 hq2 cR hO hF hX0 hX1 hwsl hbsl
      by_cases he : e0 = 0
      · subst he
        have hrec := hon.1 rfl
        rw [hst, hrec] at hnt'
        have hb8 := hnt'.b
        dsimp only at hb8
        have HB8 := hid hb8
        have HSTF : Hid (recsW (l.take (i + 1)) = ((ws ++ [(x0, x1, n)], inc (inc bs x0) x1), ps)) := hid (by rw [hst, hrec]; rfl)
        clear hst hrec hon hnt' hb8
        go_wp2_with fail
        refine CR.out.mono ?_
        rintro e wc ⟨rfl, hb'⟩
        have hIc := HI.out.under hb'
        have hltw := fun k e => (World.ownsRow.lt hIc.ways k e).2
        have hlts := fun k e => (World.ownsRow.lt hIc.strs k e).2
        have hb3 := (Below.refl wc.heap.size wc).alloc (Nat.le_refl _) (.cells #[.string X0, .string X1, .int .i64 n] 74)
        have hx3 := Box3.new wc 74 (.string X0) (.string X1) (.int .i64 n)
        have hI3 := hIc.under hb3
        have hz3 : (wc.alloc (.cells #[.string X0, .string X1, .int .i64 n] 74)).heap.size = wc.heap.size + 1 := by simp
        have HB' := hid hb'
        have HLW := hid hltw
        have HLS := hid hlts
        clear hb' hIc hb3 hltw hlts y0 y1 CR
        go_upto_region 8 with fail
        generalize wc.alloc (.cells #[.string X0, .string X1, .int .i64 n] 74) = w3 at hx3 hI3 hz3 ⊢
        have ho0 : w3.ownsRow w1.heap.size 74 3 (.slice A0 n0 c0) n0 (wayVals ws) := by have := hI3.ways; unfold WayRow at this; rw [← HQ0.out.1] at this; exact this
        have HO0 := hid ho0
        have HX3 := hid hx3
        have HI3 := hid hI3
        have HZ3 := hid hz3
        have HMX : Hid (n0 + 1 ≤ maxLen) := hid (by unfold maxLen; omega)
        have HBY : Hid ((n0 + 1) * 40 ≤ 140737488355328) := hid (by omega)
        have HN5 : Hid (∀ (j : Nat) (u : Value), ([.string X0, .string X1, .int .i64 n] : List Value)[j]? = some u → (w3.alloc (.cells #[.string X0, .string X1, .int .i64 n] 74)).cell? ((⟨w3.heap.size, 0, none⟩ : Addr).add j) = some u) := hid (three_new w3 _ _ _ _)
        have HON : Hid (∀ u ∈ ([.string X0, .string X1, .int .i64 n] : List Value), u.oneCell' = true) := hid (by rw [← HX0.out, ← HX1.out]; exact way_one (x0, x1, n))
        have HWS : Hid (w1.heap.size ≤ (w3.alloc (.cells #[.string X0, .string X1, .int .i64 n] 74)).heap.size) := hid (by have := hI3.below.size; simp; omega)
        have q0 := hx3.c0
        have q1 := hx3.c1
        have q2 := hx3.c2
        clear ho0 hI3 hx3 hz3
        go_wp2_with (at_builtin; refine wpList_append_own_at _ rfl _ _ 72 rfl w1.heap.size 74 i5 (.agg #[.string ⟨#[]⟩, .string ⟨#[]⟩, .int .i64 0]) 3 40 Tryd.underlying72 hi5 hz5 hs5 hb5 rfl (by decide) _ n0 (wayVals ws) rfl (World.ownsRow.alloc HO0.out _) ⟨w3.heap.size, 0, none⟩ 1 1 [.string X0, .string X1, .int .i64 n] rfl rfl HN5.out HON.out HMX.out HBY.out HWS.out ?_)
        intro v0' w5 hown' hgrow hnil hat
        obtain ⟨g0, k0, rfl⟩ := ownsRow_succ (k := n0) hown'
        have hg5 := grownBy_of_alloc hgrow
        have hI5 := HI3.out.way (x := (x0, x1, n)) (v0' := .slice (some ⟨g0, 0, none⟩) (n0 + 1) k0) (by unfold WayRow; dsimp only; rw [wayVals_app, List.length_append, ← HQ0.out.1]; simpa [wayVals, wayVs, HX0.out, HX1.out] using hown') hg5
        have hx5 := HX3.out.kept (hg5.block wc.heap.size (by have := HZ3.out; omega) (fun e => by have := HLW.out _ e.symm; omega))
        have hz5 : wc.heap.size < w5.heap.size := by have := hg5.size; have := HZ3.out; omega
        dsimp only at hI5
        have HI5 := hid hI5
        have HX5 := hid hx5
        have HZ5 := hid hz5
        clear hown' hgrow hnil hat hg5 hI5 hx5 hz5 HN5 HON HMX HBY HWS HO0 q0 q1 q2
        have cP := place_any A1 bs c1 X0 _ w5 HI5.out.strsIn.2.1 (by have := HQ1.out.1; omega)
        rw [show lst X0 = x0 by rw [← HX0.out, lst_ba], ← HQ1.out.1] at cP
        have hm := plc_mem bs x0
        obtain ⟨p0, hp0⟩ : ∃ p, plc bs x0 = p := ⟨_, rfl⟩
        rw [hp0] at cP hm
        have CP0 := hid cP
        have q0 := HX5.out.c0
        clear cP hp0
        by_cases h0 : x0 ∈ bs
        · rw [decide_eq_true h0] at hm
          have hz0 : ¬ p0 < 0 := by have := of_decide_eq_true hm; omega
          have HLN0 : Hid (inc bs x0 = bs) := hid (if_pos h0)
          clear hm h0
          go_wp2_with fail
          refine CP0.out.mono ?_
          rintro e wq ⟨rfl, rfl⟩
          clear q0
          have cP := place_any A1 (bs) c1 X1 _ w5 HI5.out.strsIn.2.1 (by have := HI5.out.strsIn.1; dsimp only at this; omega)
          rw [show lst X1 = x1 by rw [← HX1.out, lst_ba], ← HQ1.out.1] at cP
          have hm := plc_mem (bs) x1
          obtain ⟨p1, hp1⟩ : ∃ p, plc (bs) x1 = p := ⟨_, rfl⟩
          rw [hp1] at cP hm
          have CP1 := hid cP
          have q1 := HX5.out.c1
          clear cP hp1
          by_cases h1 : x1 ∈ bs
          · rw [decide_eq_true h1] at hm
            have hz1 : ¬ p1 < 0 := by have := of_decide_eq_true hm; omega
            have HE : Hid (SR8 w1 (recsW (l.take (i + 1))).1 (recsW (l.take (i + 1))).2 (.slice (some ⟨g0, 0, none⟩) (n0 + 1) k0) (.slice A1 (n1) c1) (.slice A2 n2 c2) w5) := hid (by rw [HSTF.out, HLN0.out, show inc (bs) x1 = bs from if_pos h1]; exact HI5.out)
            clear hm h1
            go_wp2_with fail
            refine CP1.out.mono ?_
            rintro e wq ⟨rfl, rfl⟩
            go_wp2_with fail
            go_roundw
            case rel => exact ⟨i + 1, _, _, _, _, _, _, _, _, _, rfl, rfl, rfl, by go_num, by omega, HE⟩
            case measure => simp [RowKit.intOf]; omega
          · rw [decide_eq_false h1] at hm
            have hz1 : p1 < 0 := by have := of_decide_eq_false hm; omega
            have HLN1 : Hid (inc (bs) x1 = bs ++ [x1]) := hid (if_neg h1)
            clear hm h1
            go_wp2_with fail
            refine CP1.out.mono ?_
            rintro e wq ⟨rfl, rfl⟩
            have ho1 : w5.ownsRow w1.heap.size 9 1 (.slice A1 n1 c1) (n1) (S3.strVals bs) := by have := HI5.out.strs; unfold S3.StrRow at this; dsimp only at this; rw [← HQ1.out.1] at this; exact this
            have HO1 := hid ho1
            have HMX : Hid (n1 + 1 ≤ maxLen) := hid (by unfold maxLen; omega)
            have HBY : Hid ((n1 + 1) * 16 ≤ 140737488355328) := hid (by omega)
            have HNs : Hid (∀ (j : Nat) (u : Value), ([.string X1] : List Value)[j]? = some u → (w5.alloc (.cells #[.string X1] 9)).cell? ((⟨w5.heap.size, 0, none⟩ : Addr).add j) = some u) := hid (one_new8 _ _ _)
            have HON : Hid (∀ u ∈ ([.string X1] : List Value), u.oneCell' = true) := hid (by intro u hu; rw [List.mem_singleton] at hu; subst hu; rfl)
            have HWS : Hid (w1.heap.size ≤ (w5.alloc (.cells #[.string X1] 9)).heap.size) := hid (by have := HI5.out.below.size; simp; omega)
            clear ho1
            go_wp2_with (at_builtin; refine wpList_append_own_at _ rfl _ _ 22 rfl w1.heap.size 9 i9 (.string ⟨#[]⟩) 1 16 Tryd.underlying22 hi9 hz9 hs9 hb9 rfl (by decide) _ (n1) (S3.strVals bs) rfl (World.ownsRow.alloc HO1.out _) ⟨w5.heap.size, 0, none⟩ 1 1 [.string X1] rfl rfl HNs.out HON.out HMX.out HBY.out HWS.out ?_)
            intro v1' w9 hown' hgrow hnil hat
            obtain ⟨g9, k9, rfl⟩ := ownsRow_succ (k := n1) hown'
            have hI9 := HI5.out.name (x := x1) (v1' := .slice (some ⟨g9, 0, none⟩) (n1 + 1) k9) (by unfold S3.StrRow; dsimp only; rw [S3.strVals_app, List.length_append, ← HQ1.out.1]; rw [← HX1.out] at hown'; exact hown') (grownBy_of_alloc hgrow)
            have HE : Hid (SR8 w1 (recsW (l.take (i + 1))).1 (recsW (l.take (i + 1))).2 (.slice (some ⟨g0, 0, none⟩) (n0 + 1) k0) (.slice (some ⟨g9, 0, none⟩) (n1 + 1) k9) (.slice A2 n2 c2) w9) := hid (by rw [HSTF.out, HLN0.out, HLN1.out]; exact hI9)
            clear hI9 hown' hgrow hnil hat q1
            go_wp2_with fail
            go_roundw
            case rel => exact ⟨i + 1, _, _, _, _, _, _, _, _, _, rfl, rfl, rfl, by go_num, by omega, HE⟩
            case measure => simp [RowKit.intOf]; omega
        · rw [decide_eq_false h0] at hm
          have hz0 : p0 < 0 := by have := of_decide_eq_false hm; omega
          have HLN0 : Hid (inc bs x0 = bs ++ [x0]) := hid (if_neg h0)
          clear hm h0
          go_wp2_with fail
          refine CP0.out.mono ?_
          rintro e wq ⟨rfl, rfl⟩
          have ho1 : w5.ownsRow w1.heap.size 9 1 (.slice A1 n1 c1) (n1) (S3.strVals bs) := by have := HI5.out.strs; unfold S3.StrRow at this; dsimp only at this; rw [← HQ1.out.1] at this; exact this
          have HO1 := hid ho1
          have HMX : Hid (n1 + 1 ≤ maxLen) := hid (by unfold maxLen; omega)
          have HBY : Hid ((n1 + 1) * 16 ≤ 140737488355328) := hid (by omega)
          have HNs : Hid (∀ (j : Nat) (u : Value), ([.string X0] : List Value)[j]? = some u → (w5.alloc (.cells #[.string X0] 9)).cell? ((⟨w5.heap.size, 0, none⟩ : Addr).add j) = some u) := hid (one_new8 _ _ _)
          have HON : Hid (∀ u ∈ ([.string X0] : List Value), u.oneCell' = true) := hid (by intro u hu; rw [List.mem_singleton] at hu; subst hu; rfl)
          have HWS : Hid (w1.heap.size ≤ (w5.alloc (.cells #[.string X0] 9)).heap.size) := hid (by have := HI5.out.below.size; simp; omega)
          clear ho1
          go_wp2_with (at_builtin; refine wpList_append_own_at _ rfl _ _ 22 rfl w1.heap.size 9 i9 (.string ⟨#[]⟩) 1 16 Tryd.underlying22 hi9 hz9 hs9 hb9 rfl (by decide) _ (n1) (S3.strVals bs) rfl (World.ownsRow.alloc HO1.out _) ⟨w5.heap.size, 0, none⟩ 1 1 [.string X0] rfl rfl HNs.out HON.out HMX.out HBY.out HWS.out ?_)
          intro v1' w7 hown' hgrow hnil hat
          obtain ⟨g7, k7, rfl⟩ := ownsRow_succ (k := n1) hown'
          have hg7 := grownBy_of_alloc hgrow
          have hI7 := HI5.out.name (x := x0) (v1' := .slice (some ⟨g7, 0, none⟩) (n1 + 1) k7) (by unfold S3.StrRow; dsimp only; rw [S3.strVals_app, List.length_append, ← HQ1.out.1]; rw [← HX0.out] at hown'; exact hown') hg7
          have hx7 := HX5.out.kept (hg7.block wc.heap.size HZ5.out (fun e => by have := HLS.out _ e.symm; omega))
          dsimp only at hI7
          have HI7 := hid hI7
          have HX7 := hid hx7
          have HN7 : Hid ((bs ++ [x0]).length = n1 + 1) := hid (by rw [List.length_append, ← HQ1.out.1]; rfl)
          clear hI7 hx7 hg7 hown' hgrow hnil hat q0 HMX HBY HNs HON HWS HO1 CP0 hz0
          have cP := place_any (some ⟨g7, 0, none⟩) (bs ++ [x0]) k7 X1 _ w7 HI7.out.strsIn.2.1 (by have := HI7.out.strsIn.1; dsimp only at this; omega)
          rw [show lst X1 = x1 by rw [← HX1.out, lst_ba], HN7.out] at cP
          have hm := plc_mem (bs ++ [x0]) x1
          obtain ⟨p1, hp1⟩ : ∃ p, plc (bs ++ [x0]) x1 = p := ⟨_, rfl⟩
          rw [hp1] at cP hm
          have CP1 := hid cP
          have q1 := HX7.out.c1
          clear cP hp1
          by_cases h1 : x1 ∈ bs ++ [x0]
          · rw [decide_eq_true h1] at hm
            have hz1 : ¬ p1 < 0 := by have := of_decide_eq_true hm; omega
            have HE : Hid (SR8 w1 (recsW (l.take (i + 1))).1 (recsW (l.take (i + 1))).2 (.slice (some ⟨g0, 0, none⟩) (n0 + 1) k0) (.slice (some ⟨g7, 0, none⟩) ((n1 + 1)) k7) (.slice A2 n2 c2) w7) := hid (by rw [HSTF.out, HLN0.out, show inc (bs ++ [x0]) x1 = bs ++ [x0] from if_pos h1]; exact HI7.out)
            clear hm h1
            go_wp2_with fail
            refine CP1.out.mono ?_
            rintro e wq ⟨rfl, rfl⟩
            go_wp2_with fail
            go_roundw
            case rel => exact ⟨i + 1, _, _, _, _, _, _, _, _, _, rfl, rfl, rfl, by go_num, by omega, HE⟩
            case measure => simp [RowKit.intOf]; omega
          · rw [decide_eq_false h1] at hm
            have hz1 : p1 < 0 := by have := of_decide_eq_false hm; omega
            have HLN1 : Hid (inc (bs ++ [x0]) x1 = bs ++ [x0] ++ [x1]) := hid (if_neg h1)
            clear hm h1
            go_wp2_with fail
            refine CP1.out.mono ?_
            rintro e wq ⟨rfl, rfl⟩
            have ho1 : w7.ownsRow w1.heap.size 9 1 (.slice (some ⟨g7, 0, none⟩) (n1 + 1) k7) ((n1 + 1)) (S3.strVals (bs ++ [x0])) := by have := HI7.out.strs; unfold S3.StrRow at this; dsimp only at this; rw [HN7.out] at this; exact this
            have HO1 := hid ho1
            have HMX : Hid ((n1 + 1) + 1 ≤ maxLen) := hid (by unfold maxLen; omega)
            have HBY : Hid (((n1 + 1) + 1) * 16 ≤ 140737488355328) := hid (by omega)
            have HNs : Hid (∀ (j : Nat) (u : Value), ([.string X1] : List Value)[j]? = some u → (w7.alloc (.cells #[.string X1] 9)).cell? ((⟨w7.heap.size, 0, none⟩ : Addr).add j) = some u) := hid (one_new8 _ _ _)
            have HON : Hid (∀ u ∈ ([.string X1] : List Value), u.oneCell' = true) := hid (by intro u hu; rw [List.mem_singleton] at hu; subst hu; rfl)
            have HWS : Hid (w1.heap.size ≤ (w7.alloc (.cells #[.string X1] 9)).heap.size) := hid (by have := HI7.out.below.size; simp; omega)
            clear ho1
            go_wp2_with (at_builtin; refine wpList_append_own_at _ rfl _ _ 22 rfl w1.heap.size 9 i9 (.string ⟨#[]⟩) 1 16 Tryd.underlying22 hi9 hz9 hs9 hb9 rfl (by decide) _ ((n1 + 1)) (S3.strVals (bs ++ [x0])) rfl (World.ownsRow.alloc HO1.out _) ⟨w7.heap.size, 0, none⟩ 1 1 [.string X1] rfl rfl HNs.out HON.out HMX.out HBY.out HWS.out ?_)
            intro v1' w9 hown' hgrow hnil hat
            obtain ⟨g9, k9, rfl⟩ := ownsRow_succ (k := (n1 + 1)) hown'
            have hI9 := HI7.out.name (x := x1) (v1' := .slice (some ⟨g9, 0, none⟩) ((n1 + 1) + 1) k9) (by unfold S3.StrRow; dsimp only; rw [S3.strVals_app, List.length_append, HN7.out]; rw [← HX1.out] at hown'; exact hown') (grownBy_of_alloc hgrow)
            have HE : Hid (SR8 w1 (recsW (l.take (i + 1))).1 (recsW (l.take (i + 1))).2 (.slice (some ⟨g0, 0, none⟩) (n0 + 1) k0) (.slice (some ⟨g9, 0, none⟩) ((n1 + 1) + 1) k9) (.slice A2 n2 c2) w9) := hid (by rw [HSTF.out, HLN0.out, HLN1.out]; exact hI9)
            clear hI9 hown' hgrow hnil hat q1
            go_wp2_with fail
            go_roundw
            case rel => exact ⟨i + 1, _, _, _, _, _, _, _, _, _, rfl, rfl, rfl, by go_num, by omega, HE⟩
            case measure => simp [RowKit.intOf]; omega
      · have hne : (e0 != 0) = true := by simpa using he
        obtain ⟨col, hcol, hfd⟩ : ∃ col, recW ((ws, bs), ps) (line, fs) = ((ws, bs), ps ++ [(line, col, e0)]) ∧ ∀ wx, Below wr.heap.size wr wx → Calls Tryd.prog 41 #[.agg #[.int .i64 line, .slice A' F c'], .int .i64 k, .int .i64 e0] wx (FoundOut (.agg #[.int .i64 0, .int .i64 line, .int .i64 col, .int .i64 e0]) wx) := by
          rcases hon.2 he with ⟨rfl, h⟩ | ⟨j, rfl, hj3, hf3, h⟩
          · exact ⟨0, h, fun wx _ => foundW_any line e0 A' F c' wx⟩
          · have hj : j < fs.length := by omega
            refine ⟨_, h, fun wx hb => ?_⟩
            have h' := foundA_any line e0 j A' fs c' wx ((HFI.out.below hb).mono (fun b hb' => Nat.lt_of_lt_of_le hb' hb.size)) hj (by omega)
            rw [HF.out] at h'
            rw [show fs.getD j ([], 0, false) = fs[j] by simp [List.getD, List.getElem?_eq_getElem hj]]
            exact h'
        have HSTF : Hid (recsW (l.take (i + 1)) = ((ws, bs), ps ++ [(line, col, e0)])) := hid (by rw [hst, hcol])
        have HFD := hid hfd
        have CY : Hid (∀ wx, Below wr.heap.size wr wx → wx.cell? ⟨fb, fo + i * 2, none⟩ = some (.int .i64 line) ∧ wx.cell? ⟨fb, fo + i * 2 + 1, none⟩ = some (.slice A' F c')) := hid (fun wx hb => by
          have hfl : fb < wr.heap.size := Nat.lt_of_lt_of_le hfb HBW.out.size
          exact ⟨(hb.cell (p := ⟨fb, fo + i * 2, none⟩) hfl).trans y0, (hb.cell (p := ⟨fb, fo + i * 2 + 1, none⟩) hfl).trans y1⟩)
        clear hst hon hnt' hcol hfd
        go_wp2_with fail
        refine CR.out.mono ?_
        rintro e wc ⟨rfl, hb'⟩
        have hb3 := hb'.trans (((Below.refl wc.heap.size wc).alloc (Nat.le_refl _) (.cells #[.string X0, .string X1, .int .i64 n] 74)).mono hb'.size)
        have HB3 := hid hb3
        clear hb' hb3 y0 y1 CR
        go_upto_region 8 with fail
        generalize wc.alloc (.cells #[.string X0, .string X1, .int .i64 n] 74) = w3 at HB3 ⊢
        obtain ⟨y0, y1⟩ := CY.out w3 HB3.out
        go_wp2_with fail
        refine (HFD.out w3 HB3.out).mono ?_
        rintro e w4 ⟨rfl, hb4⟩
        have hI4 := (HI.out.under HB3.out).under hb4
        have HI4 := hid hI4
        have HMX : Hid (n2 + 1 ≤ maxLen) := hid (by unfold maxLen; omega)
        have HBY : Hid ((n2 + 1) * 32 ≤ 140737488355328) := hid (by omega)
        have hprow : w4.ownsRow w1.heap.size 78 4 (.slice A2 n2 c2) n2 (probVals ps) := by have := hI4.probs; unfold ProbsRow at this; rw [← HQ2.out] at this; exact this
        have HPR := hid hprow
        have HN4 : Hid (∀ (j : Nat) (u : Value), (probVs (line, col, e0))[j]? = some u → (w4.alloc (.cells #[.int .i64 0, .int .i64 line, .int .i64 col, .int .i64 e0] 78)).cell? ((⟨w4.heap.size, 0, none⟩ : Addr).add j) = some u) := hid (four_new8 w4 0 line col e0 78)
        have HON : Hid (∀ u ∈ probVs (line, col, e0), u.oneCell' = true) := hid (by intro u hu; simp [probVs] at hu; rcases hu with rfl | rfl | rfl | rfl <;> rfl)
        have HWS : Hid (w1.heap.size ≤ (w4.alloc (.cells #[.int .i64 0, .int .i64 line, .int .i64 col, .int .i64 e0] 78)).heap.size) := hid (by have := hI4.below.size; simp; omega)
        clear hprow hI4 hb4 y0 y1
        go_wp2_with (at_builtin; refine wpList_append_own_at _ rfl _ _ 42 rfl w1.heap.size 78 i4 (.agg #[.int .i64 0, .int .i64 0, .int .i64 0, .int .i64 0]) 4 32 Tryd.underlying42 hi4 hz4 hs4 hb4 rfl (by decide) _ n2 (probVals ps) rfl (World.ownsRow.alloc HPR.out _) ⟨w4.heap.size, 0, none⟩ 1 1 (probVs (line, col, e0)) rfl rfl HN4.out HON.out HMX.out HBY.out HWS.out ?_)
        intro v' w5 hown' hgrow hnil hat
        obtain ⟨g', cap', rfl⟩ := ownsRow_succ (k := n2) hown'
        have hI5 := HI4.out.prob (x := (line, col, e0)) (v2' := .slice (some ⟨g', 0, none⟩) (n2 + 1) cap') (by unfold ProbsRow; rw [probVals_app, List.length_append, ← HQ2.out]; simpa [probVals] using hown') (grownBy_of_alloc hgrow)
        have HE : Hid (SR8 w1 (recsW (l.take (i + 1))).1 (recsW (l.take (i + 1))).2 (.slice A0 n0 c0) (.slice A1 n1 c1) (.slice (some ⟨g', 0, none⟩) (n2 + 1) cap') w5) := hid (by rw [HSTF.out]; exact hI5)
        clear hI5 hown' hgrow hnil hat
        go_wp2_with fail
        go_roundw
        case rel => exact ⟨i + 1, _, _, _, _, _, _, _, _, _, rfl, rfl, rfl, by go_num, by omega, HE⟩
        case measure => simp [RowKit.intOf]; omega
    · have hltz : ¬ (i : Int) < (l.length : Int) := by omega
      rw [List.take_of_length_le (by omega), HR.out] at hI
      have hIo := hI.out
      obtain ⟨wo, rfl⟩ : ∃ x, x = wr := ⟨_, rfl⟩
      dsimp only at hIo
      have hq0 := hIo.waysIn
      have hq1 := hIo.strsIn
      have hnb8 := HNET.out.b
      have hwsl := HNET.out.w
      have cU := unknown_any A1 n1 c1 wo (by omega)
      unfold UnkOut at cU
      have CU := hid cU
      have HIO := hid hIo
      have HIN0 := hid hq0.2
      have HIN1 := hid hq1.2.1
      have HNW : Hid (N.1.length = n0) := hid hq0.1.symm
      have HNB : Hid (N.2.length = n1) := hid hq1.1.symm
      have hn8 : n1 ≤ 8 := by omega
      have hn0 : n0 ≤ 1073741824 := by omega
      have HBWO := hid hbw
      have hro := HR1.out.next hIo.below
      have hwlt : w.heap.size < wo.heap.size := by have := hIo.below.size; have := HS1.out; omega
      have HWLT := hid hwlt
      have HRO := hid hro
      clear hI hIo hq0 hq1 hnb8 hwsl cU hbw hwz hro hwlt
      go_wp2_with fail
      refine CU.out.mono ?_
      rintro e wu ⟨⟨v, rfl, rb, rc, hTB, _⟩, hbu⟩
      obtain ⟨S, d, rfl⟩ := hTB.slice
      have hb3 := (Below.refl wu.heap.size wu).alloc (Nat.le_refl _) (.cells #[.slice A1 n1 c1, .slice S n1 d] 25)
      have hx3 := Box2.new wu 25 (.slice A1 n1 c1) (.slice S n1 d)
      have ht3 := hTB.next hb3
      have hr3 := (HRO.out.next hbu).next hb3
      have hw3 := hbu.trans (hb3.mono hbu.size)
      have HNE : Hid (∀ i, i < n1 → rb i ≠ wu.heap.size) := hid (fun i hi e => by have := hTB.hi i hi; omega)
      have hwu := hbu.size
      have HSO : Hid ((Value.slice S n1 d).ownBlock ≠ some wu.heap.size) := hid (fun e => by have := (World.ownsRow.lt hTB.own _ e).2; omega)
      clear hTB hbu hb3 CU
      go_upto_region 16 with fail
      generalize wu.alloc (.cells #[.slice A1 n1 c1, .slice S n1 d] 25) = w3 at hx3 ht3 hr3 hw3 ⊢
      obtain ⟨P, hP⟩ : ∃ P, wu.heap.size = P := ⟨_, rfl⟩
      rw [hP] at hx3 HNE HSO hwu ⊢
      clear hP
      by_cases hn1z : n1 = 0
      · have hw0 : N.1 = [] := by
          cases hN : N.1 with
          | nil => rfl
          | cons v r =>
            have h1 := (HNET.out.a v (by rw [hN]; simp)).1
            have h2 : N.2 = [] := List.eq_nil_of_length_eq_zero (by rw [HNB.out, hn1z])
            rw [h2] at h1
            simp at h1
        have hnw0 : n0 = 0 := by rw [← HNW.out, hw0]; rfl
        subst hnw0
        subst hn1z
        clear hw0
        obtain ⟨y0, y1⟩ := And.intro hx3.c0 hx3.c1
        obtain ⟨r0, r1⟩ := And.intro hr3.c0 hr3.c1
        have f0 := hr3.free 0
        have f1 := hr3.free 1
        have HRS := hid hr3
        have HBW := hid hw3
        have HTB3 := hid ht3
        clear hr3 hw3 hx3 ht3
        go_wp2
        go_loop [12, 13, 14] (fun iv _ _ => iv = .int .i64 0) (fun _ _ _ => 0)
        case atStart => rfl
        case round =>
          subst hrel
          go_wp2
          have hz := HRS.out.set (.slice A1 0 c1) (.slice S 0 d)
          have hkk : ∀ b, b ≠ w.heap.size → ((w3.setCell ⟨w.heap.size, 0, none⟩ (.slice A1 0 c1)).setCell ⟨w.heap.size, 1, none⟩ (.slice S 0 d)).heap[b]? = w3.heap[b]? := fun b hb => by
            rw [heap_setCell_other _ _ _ _ (by show b ≠ w.heap.size; omega), heap_setCell_other _ _ _ _ (by show b ≠ w.heap.size; omega)]
          have hsz1 := HS1.out
          have hszo := HIO.out.below.size
          have hszz := HBW.out.size
          have hst4 := S3.row_under HIO.out.strs HBW.out
          have hpr4 := S3.row_under HIO.out.probs HBW.out
          obtain ⟨A9, c9, he9, hc1, hc2, hin⟩ := S3.StrRow.strsIn hst4
          injection he9 with e1 e2 e3
          subst e1
          subst e3
          have hlen : (tabF (tabW N) N.2.length).length = 0 := by rw [tabF_len, HNB.out]
          have hbb : Below w.heap.size w w3 := (HB1.out.trans (HIO.out.below.mono (by omega))).trans (HBW.out.mono (by omega))
          refine bodyPost_ret (v := .tuple #[.agg #[.slice A1 0 c1, .slice S 0 d], .slice A2 n2 c2]) (results_ct rfl _ _ _ ⟨w.heap.size, 0, none⟩ _ _ rfl rfl (loadTrav hz.c0 hz.c1)) rfl ⟨⟨A1, c1, S, d, _, by rw [hlen, HNB.out], ⟨?_, ?_⟩, by rw [HNB.out] at hc1; rw [HNB.out]; exact hc1, hc2, ?_⟩, (hbb.setCell (p := ⟨w.heap.size, 0, none⟩) (Nat.le_refl _) _).setCell (p := ⟨w.heap.size, 1, none⟩) (Nat.le_refl _) _⟩
          · exact (hin.kept (fun b hb => hkk b (by omega))).mono (fun b hb => ⟨by omega, by simpa using hb.2⟩)
          · exact .inl (by rw [HNB.out]; rfl)
          · refine row_low8 ?_ (show w.heap.size ≤ w1.heap.size by omega)
            exact own_block hpr4 (fun g hg => hkk g (by have := (World.ownsRow.lt hpr4 g hg).1; omega))
      · have hnp : 0 < n1 := by omega
        obtain ⟨O, cap, hv, hcp1, hcp2, hTO⟩ := ht3.to hnp
        injection hv with hv1 _ hv2
        subst hv1
        subst hv2
        have HTO := hid (show TO w3 (wo.heap.size + 2) O n1 rb rc (tabK N 0) from hTO)
        have HBX := hid hx3
        have HRS := hid hr3
        have HBW := hid hw3
        have HON : Hid (O ≠ P) := hid (fun e => HSO.out (by rw [← e]; rfl))
        clear hx3 hr3 hw3 ht3 hTO HSO
        go_wp2
        go_loopw [12, 13, 14] (fun iv _ _ wr => ∃ j : Nat, iv = .int .i64 (j : Int) ∧ j ≤ n0 ∧ Hid (TO wr (wo.heap.size + 2) O n1 rb rc (tabK N j)) ∧ Hid (Box2 wr P 25 (.slice A1 n1 c1) (.slice (some ⟨O, 0, none⟩) n1 d)) ∧ Hid (Box2 wr w.heap.size 25 (.slice none 0 0) (.slice none 0 0)) ∧ Hid (Below wo.heap.size wo wr)) (fun iv _ _ _ => n0 - (RowKit.intOf iv).toNat)
        case atStart => exact ⟨0, rfl, Nat.zero_le _, HTO, HBX, HRS, HBW⟩
        case round =>
          clear HTO HBX HRS HBW
          obtain ⟨j, rfl, hj, HTO, HBX, HRS, HBW⟩ := hrel
          by_cases hlt2 : j < n0
          · have hltz2 : (j : Int) < (n0 : Int) := by omega
            have hjl : j < N.1.length := by rw [HNW.out]; exact hlt2
            obtain ⟨ab, ao, rfl, hab, x0, x1, x2⟩ := HIN0.out.at_ hjl
            have hst := tabK_step N j hjl
            obtain ⟨ha1, ha2, hane⟩ := HNET.out.a _ (List.getElem_mem hjl)
            obtain ⟨y, hy⟩ : ∃ y, N.1[j] = y := ⟨_, rfl⟩
            rw [hy] at x0 x1 x2 hst ha1 ha2 hane
            have kc : ∀ p : Nat, wr.cell? ⟨ab, p, none⟩ = wo.cell? ⟨ab, p, none⟩ := fun p => HBW.out.cell (p := ⟨ab, p, none⟩) hab.2
            rw [← kc] at x0 x1 x2
            obtain ⟨i, hi, hib⟩ := plc_in ha1
            obtain ⟨k, hk, hkb⟩ := plc_in ha2
            rw [HNB.out] at hib hkb
            have hik : i ≠ k := fun e => by
              subst e
              rcases plc_spec N.2 y.1 with ⟨h, _⟩ | ⟨j1, h1, _, g1, _⟩
              · rw [hi] at h; omega
              · rcases plc_spec N.2 y.2.1 with ⟨h, _⟩ | ⟨j2, h2, _, g2, _⟩
                · rw [hk] at h; omega
                · have e1 : j1 = i := by rw [hi] at h1; omega
                  have e2 : j2 = i := by rw [hk] at h2; omega
                  rw [e1] at g1
                  rw [e2, g1] at g2
                  injection g2 with g2
                  exact hane g2
            have hset : setT N.2 (tabK N j) y = upd (upd (tabK N j) i k y.2.2) k i y.2.2 := by unfold setT; rw [hi, hk]; rfl
            rw [hset] at hst
            have cI := fun (q : Nat) => place_any A1 N.2 c1 (ba y.1) _ (wr.drewN q) (HIN1.out.kept (w' := wr.drewN q) (fun b hb' => by show wr.heap[b]? = _; exact HBW.out.block b hb'.2)) (by have := HNET.out.b; omega)
            have cK := fun (q : Nat) => place_any A1 N.2 c1 (ba y.2.1) _ (wr.drewN q) (HIN1.out.kept (w' := wr.drewN q) (fun b hb' => by show wr.heap[b]? = _; exact HBW.out.block b hb'.2)) (by have := HNET.out.b; omega)
            rw [lst_ba, hi, HNB.out] at cI
            rw [lst_ba, hk, HNB.out] at cK
            obtain ⟨X1, hX1⟩ : ∃ z, ba y.1 = z := ⟨_, rfl⟩
            obtain ⟨X2, hX2⟩ : ∃ z, ba y.2.1 = z := ⟨_, rfl⟩
            obtain ⟨n, hn⟩ : ∃ z, y.2.2 = z := ⟨_, rfl⟩
            rw [hX1] at x0 cI
            rw [hX2] at x1 cK
            rw [hn] at x2 hst
            have CI5 : Hid (∀ q, Calls Tryd.prog 32 #[.slice A1 n1 c1, .string X1] (wr.drewN q) fun e w' => e = .returned (.int .i64 (i : Int)) ∧ ∃ q', w' = (wr.drewN q).drewN q') := hid (fun q => (cI q).mono fun e w' h => ⟨h.1, 0, h.2.symm⟩)
            have CK5 : Hid (∀ q, Calls Tryd.prog 32 #[.slice A1 n1 c1, .string X2] (wr.drewN q) fun e w' => e = .returned (.int .i64 (k : Int)) ∧ ∃ q', w' = (wr.drewN q).drewN q') := hid (fun q => (cK q).mono fun e w' h => ⟨h.1, 0, h.2.symm⟩)
            have HST := hid hst
            have d1 : decide (n1 ≤ i) = false := decide_eq_false (by omega)
            have d2 : decide (n1 ≤ k) = false := decide_eq_false (by omega)
            have d3 : decide (n0 ≤ j) = false := decide_eq_false (by omega)
            have hablt : ab < wr.heap.size := Nat.lt_of_lt_of_le hab.2 HBW.out.size
            have HXA : Hid (wr.cell? ⟨ab, ao + j * 3 + 2, none⟩ = some (.int .i64 n)) := hid x2
            clear cI cK kc hset hst hX1 hX2 hn hi hk ha1 ha2 hane hy x2
            go_upto_region 19 with fail
            go_quiet ((go_at_call 32; first | with_reducible refine Calls.quiet_of (CI5.out _) | with_reducible refine Calls.quiet_of (CK5.out _)))
            have hd := below_drewN' (Below.refl wr.heap.size wr) nq
            have ht6 := HTO.out.next hd
            have hr6 := HRS.out.next hd
            have hp6 := HBX.out.next hd
            have hw6 := HBW.out.trans (hd.mono HBW.out.size)
            have hxa : (wr.drewN nq).cell? ⟨ab, ao + j * 3 + 2, none⟩ = some (.int .i64 n) := (hd.cell (p := ⟨ab, ao + j * 3 + 2, none⟩) hablt).trans HXA.out
            obtain ⟨w6, hw6e⟩ : ∃ W, wr.drewN nq = W := ⟨_, rfl⟩
            rw [hw6e] at ht6 hr6 hp6 hw6 hxa ⊢
            have z1 := ht6.row i hib
            have z2 := ht6.row k hkb
            have z3 := ht6.ent i hib k hkb
            have z4 := ht6.ent k hkb i hib
            have z5 := ht6.fr i hib k hkb
            have z6 := ht6.fr k hkb i hib
            have zp := hp6.c1
            have hne1 : rb i ≠ rb k := fun e => hik (ht6.inj i k hib hkb e)
            have hset1 := (ht6.set hib hkb n).set hkb hib n
            have hset2 := (ht6.set hkb hib n).set hib hkb n
            rw [HST.out.symm] at hset1
            have hcomm : upd (upd (tabK N j) k i n) i k n = upd (upd (tabK N j) i k n) k i n := by
              funext a b
              unfold upd
              by_cases h1 : a = i ∧ b = k
              · by_cases h2 : a = k ∧ b = i
                · rw [if_pos h1, if_pos h2]
                · rw [if_pos h1, if_neg h2, if_pos h1]
              · by_cases h2 : a = k ∧ b = i
                · rw [if_neg h1, if_pos h2, if_pos h2]
                · rw [if_neg h1, if_neg h2, if_neg h2, if_neg h1]
            rw [hcomm, HST.out.symm] at hset2
            have hrp := HNE.out i hib
            have hkp := HNE.out k hkb
            have hio := ht6.ne i hib
            have hko := ht6.ne k hkb
            have hil := ht6.lo i hib
            have hkl := ht6.lo k hkb
            obtain ⟨bi, hbi⟩ : ∃ b, rb i = b := ⟨_, rfl⟩
            obtain ⟨bk, hbk⟩ : ∃ b, rb k = b := ⟨_, rfl⟩
            rw [hbi] at z1 z3 z5 hset1 hset2 hne1 hrp hil hio
            rw [hbk] at z2 z4 z6 hset1 hset2 hne1 hkp hkl hko
            have hne2 : bk ≠ bi := fun e => hne1 e.symm
            have hn5 : P ≠ bi := fun e => hrp e.symm
            have hn6 : P ≠ bk := fun e => hkp e.symm
            have hn7 : O ≠ bi := fun e => hio e.symm
            have hn8 : O ≠ bk := fun e => hko e.symm
            have hna1 : ab ≠ bi := by have := hab.2; omega
            have hna2 : ab ≠ bk := by have := hab.2; omega
            have hna3 : bi ≠ ab := by have := hab.2; omega
            have hna4 : bk ≠ ab := by have := hab.2; omega
            have hwl := HWLT.out
            have hfar : ∀ W : World, (W = (w6.setCell ⟨bi, k, none⟩ (.int .i64 n)).setCell ⟨bk, i, none⟩ (.int .i64 n) ∨ W = (w6.setCell ⟨bk, i, none⟩ (.int .i64 n)).setCell ⟨bi, k, none⟩ (.int .i64 n)) → TO W (wo.heap.size + 2) O n1 rb rc (tabK N (j + 1)) ∧ Box2 W P 25 (.slice A1 n1 c1) (.slice (some ⟨O, 0, none⟩) n1 d) ∧ Box2 W w.heap.size 25 (.slice none 0 0) (.slice none 0 0) ∧ Below wo.heap.size wo W := fun W hW => by
              rcases hW with rfl | rfl
              · exact ⟨hset1, hp6.kept (by rw [heap_setCell_other _ _ _ _ (by show P ≠ bk; exact fun e => hkp e.symm), heap_setCell_other _ _ _ _ (by show P ≠ bi; exact fun e => hrp e.symm)]), hr6.kept (by rw [heap_setCell_other _ _ _ _ (by show w.heap.size ≠ bk; omega), heap_setCell_other _ _ _ _ (by show w.heap.size ≠ bi; omega)]), (hw6.setCell (p := ⟨bi, k, none⟩) (by show _ ≤ bi; omega) _).setCell (p := ⟨bk, i, none⟩) (by show _ ≤ bk; omega) _⟩
              · exact ⟨hset2, hp6.kept (by rw [heap_setCell_other _ _ _ _ (by show P ≠ bi; exact fun e => hrp e.symm), heap_setCell_other _ _ _ _ (by show P ≠ bk; exact fun e => hkp e.symm)]), hr6.kept (by rw [heap_setCell_other _ _ _ _ (by show w.heap.size ≠ bi; omega), heap_setCell_other _ _ _ _ (by show w.heap.size ≠ bk; omega)]), (hw6.setCell (p := ⟨bk, i, none⟩) (by show _ ≤ bk; omega) _).setCell (p := ⟨bi, k, none⟩) (by show _ ≤ bi; omega) _⟩
            have HFAR := hid hfar
            clear hd ht6 hr6 hp6 hw6 hw6e hset1 hset2 hcomm hbi hbk hil hkl hfar CI5 CK5 HTO HRS HBX HBW x0 x1 hik hwl hablt hab
            go_wp2_with fail
            go_region
            have HG := hid (HFAR.out _ (.inl rfl))
            (try go_wp2)
            go_roundw
            case rel => exact ⟨j + 1, by go_num, by omega, hid (HG.out.1.next ((Below.refl _ _).drew)), hid (HG.out.2.1.next ((Below.refl _ _).drew)), hid (HG.out.2.2.1.next ((Below.refl _ _).drew)), hid HG.out.2.2.2.drew⟩
            case measure => simp [RowKit.intOf]; omega
          · have hltz2 : ¬ (j : Int) < (n0 : Int) := by omega
            obtain rfl : j = n0 := by omega
            have htw : tabK N j = tabW N := tabK_end N j (by rw [HNW.out]; exact Nat.le_refl _)
            rw [htw] at HTO
            obtain ⟨y0, y1⟩ := And.intro HBX.out.c0 HBX.out.c1
            obtain ⟨r0, r1⟩ := And.intro HRS.out.c0 HRS.out.c1
            have f0 := HRS.out.free 0
            have f1 := HRS.out.free 1
            clear htw
            go_wp2
            have hz := HRS.out.set (.slice A1 n1 c1) (.slice (some ⟨O, 0, none⟩) n1 d)
            have hkk : ∀ b, b ≠ w.heap.size → ((wr.setCell ⟨w.heap.size, 0, none⟩ (.slice A1 n1 c1)).setCell ⟨w.heap.size, 1, none⟩ (.slice (some ⟨O, 0, none⟩) n1 d)).heap[b]? = wr.heap[b]? := fun b hb => by
              rw [heap_setCell_other _ _ _ _ (by show b ≠ w.heap.size; omega), heap_setCell_other _ _ _ _ (by show b ≠ w.heap.size; omega)]
            have hsz1 := HS1.out
            have hszo := HIO.out.below.size
            have hszz := HBW.out.size
            have hst4 := S3.row_under HIO.out.strs HBW.out
            have hpr4 := S3.row_under HIO.out.probs HBW.out
            obtain ⟨A9, c9, he9, hc1, hc2, hin⟩ := S3.StrRow.strsIn hst4
            injection he9 with e1 e2 e3
            subst e1
            subst e3
            have hlen : (tabF (tabW N) N.2.length).length = n1 := by rw [tabF_len, HNB.out]
            have hbb : Below w.heap.size w wr := (HB1.out.trans (HIO.out.below.mono (by omega))).trans (HBW.out.mono (by omega))
            refine bodyPost_ret (v := .tuple #[.agg #[.slice A1 n1 c1, .slice (some ⟨O, 0, none⟩) n1 d], .slice A2 n2 c2]) (results_ct rfl _ _ _ ⟨w.heap.size, 0, none⟩ _ _ rfl rfl (loadTrav hz.c0 hz.c1)) rfl ⟨⟨A1, c1, (some ⟨O, 0, none⟩), d, _, by rw [hlen, HNB.out], ⟨?_, ?_⟩, by rw [HNB.out] at hc1; rw [HNB.out]; exact hc1, hc2, ?_⟩, (hbb.setCell (p := ⟨w.heap.size, 0, none⟩) (Nat.le_refl _) _).setCell (p := ⟨w.heap.size, 1, none⟩) (Nat.le_refl _) _⟩
            · exact (hin.kept (fun b hb => hkk b (by omega))).mono (fun b hb => ⟨by omega, by simpa using hb.2⟩)
            · rw [HNB.out]
              exact (HTO.out.tabIn.kept (fun b hb => hkk b (by have := HWLT.out; omega))).mono (fun b hb => ⟨by have := HWLT.out; omega, by simpa using hb.2⟩)
            · refine row_low8 ?_ (show w.heap.size ≤ w1.heap.size by omega)
              exact own_block hpr4 (fun g hg => hkk g (by have := (World.ownsRow.lt hpr4 g hg).1; omega))
end Go.Proofs.YtocmbifljkcmeaaDoor

