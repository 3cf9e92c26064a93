/-
  The times of a class: allStarts and Times of coursefile. Conditions: the class lies in memory; there are at most 4096 times.
  The times of a class: Times of coursefile. Conditions: the class lies in memory; there are at most 4096 times.
  Lists of lists of strings: Plain of the specification of records, SameLists. Conditions: the lists lie in memory.
  Records out of lists of fields: Plain of the specification of records. Conditions: the lists lie in memory; no more than 1000000 of each, of at most 1000000 bytes each.
-/
import Derived.Test.YtigdcgklpapfbaaGreatDoorVA01
import Derived.Test.YtigdcgklpapfbaaGreatDoorVA02
import Derived.Test.YtigdcgklpapfbaaGreatDoorVA03
import Derived.Test.YtigdcgklpapfbaaGreatDoorVA04
import Derived.Test.YtigdcgklpapfbaaGreatDoorVA05
import Derived.Test.YtigdcgklpapfbaaGreatDoorVA06
import Derived.Test.YtigdcgklpapfbaaGreatDoorVA07
import Derived.Test.YtigdcgklpapfbaaGreatDoorVA08
import Derived.Test.YtigdcgklpapfbaaGreatDoorVA09
import Derived.Test.YtigdcgklpapfbaaGreatDoorVA10
import Derived.Test.YtigdcgklpapfbaaGreatDoorVA11
import Derived.Test.YtigdcgklpapfbaaGreatDoorVA12
import Derived.Test.YtigdcgklpapfbaaGreatDoorVA13
import Derived.Test.YtigdcgklpapfbaaGreatDoorVA14
import Derived.Test.YtigdcgklpapfbaaGreatDoorVA15
import Derived.Test.YtigdcgklpapfbaaGreatDoorVA17
import Derived.Test.YtigdcgklpapfbaaGreatDoorVA18
import Derived.Test.YtigdcgklpapfbaaGreatDoorProg
import Derived.WalkKit
import Derived.WalkSpells
import Derived.WalkLawsBesides
import Derived.Lib.Hide
import Derived.Deep.QuietTactic
import Derived.BigQuiet
import Derived.Laws.Rows
import Derived.OwnWalk
import Derived.Lib.BufferWrite
import Derived.Lib.UnsafeStr
import Derived.Laws.IdiomStrings
import Derived.Laws.BytesArg
import Derived.Laws.BytesString
import Derived.Laws.OwnMore
import Derived.Lib.IndexLaws
import Derived.Lib.ItoaNum
import Derived.Lib.Atoi
import Derived.Lib.Bytealg
import Derived.Laws.BitsAllLaws
import Derived.Laws.BitsLemmas
import Derived.Deep.MidRow
import Derived.Shelf.Strings.Builder1
import Derived.Shelf.Strings.Builder2
import Derived.Shelf.Strings.OnBuilder
import Derived.Shelf.Strings.Trim
import Derived.Shelf.Small.Bits
import Derived.Shelf.Small.Strs
import Derived.Shelf.Small.Wraps
import Derived.Shelf.Strings.BuilderF
import Derived.Shelf.Strings.BuilderK
import Derived.Shelf.Strings.Builder2Cap
import Derived.Shelf.Strconv.Atoi
import Derived.Shelf.Strconv.Itoa0
import Derived.Shelf.Strconv.Itoa1
import Derived.Shelf.LaysM
import Derived.Shelf.Strconv.Itoa2
import Derived.Shelf.Strconv.Itoa3
import Derived.Shelf.Strconv.AtoiErrFast
import Derived.Shelf.Strconv.ParseIntEmpty
import Derived.Shelf.Strconv.AtoiFail
import Derived.Shelf.Strconv.Clone
import Derived.Shelf.Strconv.SyntaxError
import Derived.Shelf.LaysC
import Derived.Shelf.Strconv.ToError
import Derived.Shelf.Strconv.AtoiErr
import Derived.Shelf.Strings.Search1
import Derived.Shelf.Strings.Search2
import Derived.Shelf.Strings.Search3
import Derived.Shelf.Strings.Cut
import Derived.Shelf.Strings.Shaped
import Derived.Shelf.Strings.Prefix
import Derived.Shelf.Strings.Runes
import Derived.Shelf.Strings.AsciiSet
import Derived.Shelf.Bits.Mul64
import Derived.Shelf.Strings.Repeat
import Derived.Shelf.Unicode.DecodeSlow
import Derived.Shelf.Strings.BuilderCap
import Derived.Shelf.Slices.Turned
import Derived.Ground.SlgfProg
import Derived.Shelf.SlicesE.IndexFunc
import Derived.Lib.AtoiErrMem
import Derived.Handy
import Derived.Deep.RegionLaw
import Derived.Deep.RegionHeld3
import Derived.RangeFuncBox
import Derived.RangeFuncNested
import Derived.RangeFuncBound
import Derived.RangeFuncCalls
import Derived.RangeFuncLeaves
import Derived.Shelf.Abstract
import Derived.Shelf.RegionOpen
import Derived.OwnWalkIn
import Derived.Lib.SlTrimSet
import Derived.Shelf.Strings.SlTrimAscii
import Derived.Laws.ResultCell
import Derived.RegionTactic
import Derived.Lib.Repeat
import Derived.Lib.SlicesS
import Derived.TacticsInMore
import Derived.LoopNIn
import Derived.LoopIn
import Derived.Deep.DeepCutAuto
import Derived.Lib.Join
import Derived.Laws.Concat
import Derived.Maps.OwnSet
import Derived.Maps.Range
import Derived.Sort.EncStr
import Derived.Sort.Grow
import Derived.WalkMore
import Derived.Deep.AppendLies
import Derived.Maps.AppendAt
set_option linter.unusedVariables false
namespace Go.Proofs.YtigdcgklpapfbaaGreatDoor.S10
open Go Go.Proofs Go.RowKit Go.Lib Go.Proofs.YtigdcgklpapfbaaGreatDoor

def dayStarts (y : Nat) (k : Nat) : List StartD := (List.range k).map fun (t : Nat) => ((y : Int), (t : Int))
def allN (d k : Nat) : List StartD := (List.range d).flatMap fun y => dayStarts y k
theorem dayStarts_len (y k : Nat) : (dayStarts y k).length = k := by simp [dayStarts]
theorem dayStarts_succ (y k : Nat) : dayStarts y (k + 1) = dayStarts y k ++ [((y : Int), (k : Int))] := by simp [dayStarts, List.range_succ]
theorem allN_succ (d k : Nat) : allN (d + 1) k = allN d k ++ dayStarts d k := by simp [allN, List.range_succ]
theorem allN_len (d k : Nat) : (allN d k).length = d * k := by
  induction d with
  | zero => simp [allN]
  | succ d ih => rw [allN_succ, List.length_append, ih, dayStarts_len, Nat.succ_mul]
/-- All starts of a class of so many slots. -/
def allS (d s len : Int) : List StartD := allN d.toNat (s - len + 1).toNat
/-- The starts that count. -/
def startsOf (d s : Int) (c : ClassD) : List StartD := if c.starts = [] then allS d s c.len else c.starts
def timesOf (k len : Int) (st : List StartD) : List TimeD := st.map fun t => (k, t.1, t.2, len)
/-- What Times returns, if they are not too many. -/
def timesC (d s b m : Int) (c : ClassD) : List TimeD := if gridB d s b m = true ∧ 1 ≤ c.len ∧ c.len ≤ s then c.pats.flatMap fun k => timesOf k c.len (startsOf d s c) else []

theorem start_new (w : World) (y t : Int) : ∀ (j : Nat) (u : Value), (startVals [(y, t)])[j]? = some u → (w.alloc (.cells #[.int .i64 y, .int .i64 t] 74)).cell? ((⟨w.heap.size, 0, none⟩ : Addr).add j) = some u := by
  intro j u hj
  rw [Addr.add_lit, Lib.cell_of_heap (heap_alloc_new w _)]
  match j, hj with
  | 0, hj => exact hj
  | 1, hj => exact hj
  | j + 2, hj => simp [startVals, startVs] at hj
theorem start_one1 (y t : Int) : ∀ u ∈ startVals [(y, t)], u.oneCell' = true := startVals_one _
set_option maxHeartbeats 8000000 in
set_option maxRecDepth 100000 in
theorem allStarts_any (len d s b m : Int) (hd : 1 ≤ d ∧ d ≤ 7) (hs : 1 ≤ s ∧ s ≤ 24) (hl : 1 ≤ len ∧ len ≤ s) (w : World) :
    Calls Tryz.prog 42 #[.int .i64 len, .agg #[.int .i64 d, .int .i64 s, .int .i64 b, .int .i64 m]] w fun e w' => (∃ v, e = .returned v ∧ StartRow w' w.heap.size v (allS d s len)) ∧ Below w.heap.size w w' := by
  obtain ⟨i9, hi9, hz9, hsi9, hby9⟩ := info_parts infoStart
  unfold allS
  obtain ⟨D, hD⟩ : ∃ D : Nat, d.toNat = D := ⟨_, rfl⟩
  obtain ⟨K, hK⟩ : ∃ K : Nat, (s - len + 1).toNat = K := ⟨_, rfl⟩
  rw [hD, hK]
  have hDz : d = (D : Int) := by omega
  have hD7 : D ≤ 7 := by omega
  have hK24 : K ≤ 24 := by omega
  have q1 : IntKind.i64.wrap (s - len) = s - len := IntWalk.i64_in _ (by omega)
  have q2 : IntKind.i64.wrap (s - len + 1) = (K : Int) := by rw [IntWalk.i64_in _ (by omega)]; omega
  subst hDz
  have hG := Box4.new w (D : Int) s b m 24
  have hb1 := (Below.refl w.heap.size w).alloc (Nat.le_refl _) (.cells #[.int .i64 (D : Int), .int .i64 s, .int .i64 b, .int .i64 m] 24)
  obtain ⟨g0, g1, g2, g3, gl⟩ := hG
  have HG : Hid (Box4 (w.alloc (.cells #[.int .i64 (D : Int), .int .i64 s, .int .i64 b, .int .i64 m] 24)) w.heap.size (D : Int) s b m) := hid ⟨g0, g1, g2, g3, gl⟩
  have HB := hid hb1
  have HD7 := hid hD7
  have HK24 := hid hK24
  clear hD hK hb1 hd hs hl
  go_enter Tryz.func42, Tryz.ntmps42
  go_wp2
  generalize w.alloc (.cells #[.int .i64 (D : Int), .int .i64 s, .int .i64 b, .int .i64 m] 24) = w1 at HG HB g0 g1 g2 g3 gl ⊢
  clear g0 g1 g2 g3 gl
  go_loopw [5, 6, 7, 10, 18] (fun v _ _ iv _ wr => ∃ (i n : Nat) (A : Option Addr) (c : Nat), v = .slice A n c ∧ iv = .int .i64 (i : Int) ∧ i ≤ D ∧ Hid (n = i * K) ∧ Hid (wr.ownsRow w1.heap.size 74 2 (.slice A n c) n (startVals (allN i K))) ∧ Hid (Box4 wr w.heap.size (D : Int) s b m) ∧ Hid (Below w.heap.size w wr) ∧ Hid (w1.heap.size ≤ wr.heap.size)) (fun _ _ _ iv _ _ => D - (RowKit.intOf iv).toNat)
  case atStart => exact ⟨0, 0, none, 0, rfl, rfl, Nat.zero_le _, hid (by simp), hid (by rw [show allN 0 K = [] by simp [allN]]; exact World.ownsRow_nil _ _ _ _), hid HG.out, hid HB.out, hid (Nat.le_refl _)⟩
  case round =>
    obtain ⟨i, n, A, c, rfl, rfl, hi, hn, hrow, hG, hBw, hSz⟩ := hrel
    by_cases hlt : i < D
    · have hltz : (i : Int) < (D : Int) := by omega
      obtain ⟨g0, g1, g2, g3, gl⟩ := hG.out
      go_wp2
      clear g0 g1 g2 g3 gl
      go_loopw [5, 7, 18] (fun v _ jv wr => ∃ (j n : Nat) (A : Option Addr) (c : Nat), v = .slice A n c ∧ jv = .int .i64 (j : Int) ∧ j ≤ K ∧ Hid (n = i * K + j) ∧ Hid (wr.ownsRow w1.heap.size 74 2 (.slice A n c) n (startVals (allN i K ++ dayStarts i j))) ∧ Hid (Box4 wr w.heap.size (D : Int) s b m) ∧ Hid (Below w.heap.size w wr) ∧ Hid (w1.heap.size ≤ wr.heap.size)) (fun _ _ jv _ => K - (RowKit.intOf jv).toNat)
      case atStart => exact ⟨0, n, A, c, rfl, rfl, Nat.zero_le _, hid (by have := hn.out; omega), hid (by rw [show dayStarts i 0 = [] by simp [dayStarts], List.append_nil]; exact hrow.out), hG, hBw, hSz⟩
      case round =>
        obtain ⟨j, n2, A2, c2, rfl, rfl, hj, hn2, hrow2, hG2, hB2, hSz2⟩ := hrel
        by_cases hltj : j < K
        · have hltjz : (j : Int) < (K : Int) := by omega
          have hn2b : n2 ≤ 200 := by
            have := Nat.mul_le_mul (show i ≤ 7 by omega) hK24
            have := hn2.out
            omega
          have HMX : Hid (n2 + 1 ≤ maxLen) := hid (by unfold maxLen; omega)
          have HBY : Hid ((n2 + 1) * 16 ≤ 140737488355328) := hid (by omega)
          have HSZ : Hid (∀ o : Obj, w1.heap.size ≤ (wr.alloc o).heap.size) := hid (fun o => by have := hSz2.out; simp; omega)
          go_wp2_with (at_builtin; refine wpList_append_own _ rfl _ _ 31 rfl w1.heap.size 74 i9 (.agg #[.int .i64 0, .int .i64 0]) 2 16 Tryz.underlying31 hi9 hz9 hsi9 hby9 rfl (by decide) _ n2 (startVals (allN i K ++ dayStarts i j)) rfl (World.ownsRow.alloc hrow2.out _) ⟨wr.heap.size, 0, none⟩ 1 1 (startVals [((i : Int), (j : Int))]) rfl rfl (start_new _ _ _) (start_one1 _ _) HMX.out HBY.out (HSZ.out _) ?_)
          intro v' w4 hown' hgrow _
          have hg' := grownBy_of_alloc hgrow
          obtain ⟨g', cap', rfl⟩ := ownsRow_succ (k := n2) hown'
          have HOwn := hid hown'
          have hw1 : w.heap.size + 1 ≤ w1.heap.size := HG.out.lt
          have hb24 : Below w.heap.size wr w4 := (Below.refl _ wr).grown hg' hB2.out.size (fun k hk => by have := (World.ownsRow.lt hrow2.out k hk).1; omega)
          have HG4 : Hid (Box4 w4 w.heap.size (D : Int) s b m) := hid (by
            have hx := hG2.out
            have kc : ∀ o : Nat, w4.cell? ⟨w.heap.size, o, none⟩ = wr.cell? ⟨w.heap.size, o, none⟩ := fun o => World.cell?_of_block (w := wr) (hg'.block _ hx.lt (fun e => by have := (World.ownsRow.lt hrow2.out _ e.symm).1; have e2 : w1.heap.size ≤ w.heap.size := this; omega))
            exact ⟨(kc 0).trans hx.c0, (kc 1).trans hx.c1, (kc 2).trans hx.c2, (kc 3).trans hx.c3, Nat.lt_of_lt_of_le hx.lt hg'.size⟩)
          have HB4 := hid (hB2.out.trans hb24)
          have HS4 := hid (Nat.le_trans hSz2.out hg'.size)
          clear hg' hb24 hgrow hown' hw1
          go_wp2_with fail
          go_roundw
          case rel =>
            refine ⟨j + 1, n2 + 1, _, _, rfl, by go_num, by omega, hid (by have := hn2.out; omega), hid ?_, HG4, HB4, HS4⟩
            rw [dayStarts_succ, ← List.append_assoc, startVals_app]
            exact HOwn.out
          case measure => simp [RowKit.intOf]; omega
        · have hltjz : ¬ (j : Int) < (K : Int) := by omega
          have hjK : j = K := by omega
          have HR3 : Hid (wr.ownsRow w1.heap.size 74 2 (.slice A2 n2 c2) n2 (startVals (allN (i + 1) K))) := hid (by rw [allN_succ]; have := hrow2.out; rw [hjK] at this; exact this)
          have HN3 : Hid (n2 = (i + 1) * K) := hid (by have := hn2.out; rw [hjK] at this; rw [Nat.succ_mul]; exact this)
          clear hjK
          go_wp2
          go_roundw
          case rel => exact ⟨i + 1, n2, A2, c2, rfl, by go_num, by omega, HN3, HR3, hG2, hB2, hSz2⟩
          case measure => simp [RowKit.intOf]; omega
    · have hltz : ¬ (i : Int) < (D : Int) := by omega
      have hiD : i = D := by omega
      have HR3 : Hid (StartRow wr w.heap.size (.slice A n c) (allN D K)) := hid (by
        unfold StartRow
        rw [allN_len]
        have h1 := hrow.out
        have h2 := hn.out
        rw [hiD] at h1 h2
        rw [← h2]
        exact rowLow h1 HB.out.size)
      clear hiD
      go_wp2
      go_ret
      exact ⟨⟨_, rfl, HR3.out⟩, hBw.out⟩
end Go.Proofs.YtigdcgklpapfbaaGreatDoor.S10

set_option linter.unusedVariables false
namespace Go.Proofs.YtigdcgklpapfbaaGreatDoor.S10
open Go Go.Proofs Go.RowKit Go.Lib Go.Proofs.YtigdcgklpapfbaaGreatDoor

/-- What lies while Times runs: the class, the grid. -/
structure KT (w0 : World) (a : Array Value) (d s b m : Int) (W : World) : Prop where
  x : BoxC W w0.heap.size a
  g : Box4 W (w0.heap.size + 1) d s b m
  b : Below w0.heap.size w0 W
theorem KT.next {w0 W W' : World} {a : Array Value} {d s b m : Int} (h : KT w0 a d s b m W) (k : Below W.heap.size W W') : KT w0 a d s b m W' := ⟨h.x.next k, h.g.next k h.g.lt, h.b.trans (k.mono h.b.size)⟩
theorem KT.first (w : World) (a : Array Value) (d s b m : Int) : KT w a d s b m ((w.alloc (.cells a 33)).alloc (.cells #[.int .i64 d, .int .i64 s, .int .i64 b, .int .i64 m] 24)) := by
  have hb1 := (Below.refl w.heap.size w).alloc (Nat.le_refl _) (.cells a 33)
  have hL := BoxC.new w a
  have hs : (w.alloc (.cells a 33)).heap.size = w.heap.size + 1 := by simp
  generalize w.alloc (.cells a 33) = w1 at hb1 hL hs ⊢
  have hb2 := (Below.refl w1.heap.size w1).alloc (Nat.le_refl _) (.cells #[.int .i64 d, .int .i64 s, .int .i64 b, .int .i64 m] 24)
  have hG := Box4.new w1 d s b m 24
  rw [hs] at hG
  exact ⟨hL.next hb2, hG, hb1.trans (hb2.mono (by omega))⟩
/-- The call's own row has grown. -/
theorem KT.row {w0 W W' : World} {a : Array Value} {d s b m : Int} {row : Option Nat} {C : Nat} (h : KT w0 a d s b m W) (hC : w0.heap.size + 2 ≤ C) (hg : W.grownBy W' row) (hr : ∀ k, row = some k → C ≤ k) : KT w0 a d s b m W' := by
  have hl := h.g.lt
  have hne : ∀ k, k < C → some k ≠ row := fun k hk e => by have := hr k e.symm; omega
  have kc : ∀ o : Nat, W'.cell? ⟨w0.heap.size + 1, o, none⟩ = W.cell? ⟨w0.heap.size + 1, o, none⟩ := fun o => World.cell?_of_block (w := W) (hg.block (w0.heap.size + 1) hl (hne (w0.heap.size + 1) (by omega)))
  have hx := h.g
  exact ⟨h.x.kept (hg.block _ h.x.lt (hne _ (by omega))), ⟨(kc 0).trans hx.c0, (kc 1).trans hx.c1, (kc 2).trans hx.c2, (kc 3).trans hx.c3, Nat.lt_of_lt_of_le hl hg.size⟩, h.b.grown hg h.b.size (fun k e => by have := hr k e; omega)⟩
theorem flat_succ {α β : Type} (l : List α) (F : α → List β) (i : Nat) (h : i < l.length) : (l.take (i + 1)).flatMap F = (l.take i).flatMap F ++ F l[i] := by
  rw [List.take_succ_eq_append_getElem h, List.flatMap_append]
  simp
theorem sum_const (M : Nat) : ∀ l : List Int, (l.map fun _ => M).sum = l.length * M
  | [] => by simp
  | a :: l => by rw [List.map_cons, List.sum_cons, sum_const M l, List.length_cons, Nat.succ_mul, Nat.add_comm]
theorem timesOf_succ (k len : Int) (st : List StartD) (j : Nat) (h : j < st.length) : timesOf k len (st.take (j + 1)) = timesOf k len (st.take j) ++ [(k, (st[j]).1, (st[j]).2, len)] := by
  unfold timesOf
  rw [List.take_succ_eq_append_getElem h, List.map_append]
  rfl
set_option maxHeartbeats 16000000 in
set_option maxRecDepth 100000 in
theorem times_any (d s b m : Int) (x : ClassD) (q : ClassA) (w : World) (hin : ClassIn w (fun k => k < w.heap.size) x q) (htot : x.pats.length * (startsOf d s x).length ≤ 4096) :
    Calls Tryz.prog 11 #[clsV x q, .agg #[.int .i64 d, .int .i64 s, .int .i64 b, .int .i64 m]] w fun e w' => (∃ v, e = .returned v ∧ TimeRow w' w.heap.size v (timesC d s b m x)) ∧ Below w.heap.size w w' := by
  obtain ⟨aP, cP, aF, cF, aS, cS, aT, cT⟩ := q
  obtain ⟨i9, hi9, hz9, hsi9, hby9⟩ := info_parts infoTime
  unfold clsV timesC
  have hk := KT.first w (clsArr x ⟨aP, cP, aF, cF, aS, cS, aT, cT⟩) d s b m
  have hz1 : ((w.alloc (.cells (clsArr x ⟨aP, cP, aF, cF, aS, cS, aT, cT⟩) 33)).alloc (.cells #[.int .i64 d, .int .i64 s, .int .i64 b, .int .i64 m] 24)).heap.size = w.heap.size + 2 := by simp
  unfold clsArr at hk hz1
  dsimp only at hk hz1 ⊢
  have cG := fun w => gvalid_any d s b m w
  unfold Says at cG
  have HK := hid hk
  have HZ1 := hid hz1
  have HP : Hid (NumsIn w (fun k => k < w.heap.size) aP x.pats ∧ x.pats.length ≤ cP ∧ cP ≤ 9223372036854775807) := hid ⟨hin.p, hin.p1, hin.p2⟩
  have HT : Hid (StartsIn w (fun k => k < w.heap.size) aT x.starts ∧ x.starts.length ≤ cT ∧ cT ≤ 9223372036854775807) := hid ⟨hin.t, hin.t1, hin.t2⟩
  clear hk hz1 hin
  obtain ⟨ST, hST⟩ : ∃ ST, startsOf d s x = ST := ⟨_, rfl⟩
  rw [hST] at htot ⊢
  have HST := hid hST
  clear hST
  cases hgr : gridB d s b m with
  | false =>
    rw [hgr] at cG
    have CG := hid cG
    clear cG hgr htot
    rw [if_neg (by simp)]
    go_enter Tryz.func11, Tryz.ntmps11
    go_wp2
    go_step3
    go_upto_region 1 with fail
    generalize World.alloc _ _ = w1 at HK HZ1 ⊢
    obtain ⟨g0, g1, g2, g3, gl⟩ := HK.out.g
    obtain ⟨x0, x1, x2, x3, x4, x5, x6, x7, x8⟩ := BoxC.cells HK.out.x
    go_wp2_with fail
    refine (CG.out _).mono ?_
    rintro e w2 ⟨rfl, hb⟩
    have HB := hid (HK.out.next hb).b
    clear hb x0 x1 x2 x3 x4 x5 x6 x7 x8 g0 g1 g2 g3 gl
    go_wp2
    try rw [Exit.noGoto_ret]
    go_ret
    exact ⟨⟨_, rfl, World.ownsRow_nil _ _ _ _⟩, HB.out⟩
  | true =>
    rw [hgr] at cG
    have hgp := grid_of hgr
    have CG := hid cG
    clear cG hgr
    by_cases hl : 1 ≤ x.len ∧ x.len ≤ s
    · rw [if_pos ⟨rfl, hl.1, hl.2⟩]
      have cL := fun w => isLength_any x.len d s b m w
      rw [decide_eq_true hl] at cL
      unfold Says at cL
      have CL := hid cL
      have cAS := hid (fun w => allStarts_any x.len d s b m ⟨hgp.1.1, hgp.1.2⟩ ⟨hgp.2.1.1, hgp.2.1.2⟩ hl w)
      clear cL
      obtain ⟨LN, hLN⟩ : ∃ LN, x.len = LN := ⟨_, rfl⟩
      have HLN := hid hLN
      rw [hLN] at CL cAS HK HZ1 ⊢
      obtain ⟨PN, hPN⟩ : ∃ PN, x.pats.length = PN := ⟨_, rfl⟩
      obtain ⟨TN, hTN⟩ : ∃ TN, x.starts.length = TN := ⟨_, rfl⟩
      have HPN := hid hPN
      have HTN := hid hTN
      rw [hPN] at htot HK HZ1 ⊢
      rw [hTN] at HK HZ1 ⊢
      clear hLN hPN hTN hl hgp
      obtain ⟨M, hM⟩ : ∃ M, ST.length = M := ⟨_, rfl⟩
      rw [hM] at htot
      have HM := hid hM
      clear hM
      go_enter Tryz.func11, Tryz.ntmps11
      go_wp2
      go_step3
      go_upto_region 1 with fail
      generalize World.alloc _ _ = w1 at HK HZ1 ⊢
      obtain ⟨g0, g1, g2, g3, gl⟩ := HK.out.g
      obtain ⟨x0, x1, x2, x3, x4, x5, x6, x7, x8⟩ := BoxC.cells HK.out.x
      go_wp2_with fail
      refine (CG.out _).mono ?_
      rintro e w2 ⟨rfl, hb⟩
      have hk2 := HK.out.next hb
      obtain ⟨x0', x1', x2', x3', x4', x5', x6', x7', x8'⟩ := BoxC.cells hk2.x
      obtain ⟨g0', g1', g2', g3', gl'⟩ := hk2.g
      have HK2 := hid hk2
      clear hb hk2 x0 x1 x2 x3 x4 x5 x6 x7 x8 g0 g1 g2 g3 gl
      go_wp2_with fail
      refine (CL.out _).mono ?_
      rintro e w3 ⟨rfl, hb⟩
      have hk3 := HK2.out.next hb
      obtain ⟨x0, x1, x2, x3, x4, x5, x6, x7, x8⟩ := BoxC.cells hk3.x
      obtain ⟨g0, g1, g2, g3, gl⟩ := hk3.g
      have HK3 := hid hk3
      clear hb hk3 x0' x1' x2' x3' x4' x5' x6' x7' x8' g0' g1' g2' g3' gl'
      go_upto_if 25 with fail
      go_cut [5] (fun v wz => ∃ A c, v = .slice A M c ∧ Hid (StartsIn wz (fun k => k < wz.heap.size) A ST) ∧ Hid (M ≤ c ∧ c ≤ 9223372036854775807) ∧ Hid (KT w #[.string (ba x.code), .string (ba x.course), .string (ba x.part), .int .i64 LN, .slice aP PN cP, .int .i64 x.seats, .slice aF x.feats.length cF, .slice aS x.staff.length cS, .slice aT TN cT] d s b m wz))
      case first =>
        by_cases h0 : x.starts = []
        · have hTN0 : ((TN : Int) == 0) = true := by rw [← HTN.out, h0]; rfl
          have hSe : Hid (allS d s LN = ST) := hid (by rw [← HST.out]; unfold startsOf; rw [if_pos h0, HLN.out])
          clear h0
          go_wp2_with fail
          refine (cAS.out _).mono ?_
          rintro e w4 ⟨⟨v, rfl, hrow⟩, hb⟩
          unfold StartRow at hrow
          rw [hSe.out, HM.out] at hrow
          obtain ⟨A, c, rfl, hc1, hc2, hin⟩ := FlatIn.ofRow hrow (by rw [startVals_len, HM.out])
          have HIN2 := hid (FlatIn.mono hin (fun k hk => hk.2))
          have HKE := hid (HK3.out.next hb)
          clear hb hrow hin
          go_wp2_with fail
          go_meet
          exact ⟨A, c, rfl, HIN2, hid ⟨hc1, hc2⟩, HKE⟩
        · have hTN0 : ((TN : Int) == 0) = false := by
            have : TN ≠ 0 := fun e => h0 (List.eq_nil_of_length_eq_zero (by rw [HTN.out]; exact e))
            simpa using this
          have hSe : Hid (x.starts = ST) := hid (by rw [← HST.out]; unfold startsOf; rw [if_neg h0])
          have hTM : TN = M := by rw [← HTN.out, hSe.out, HM.out]
          have HIN2 : Hid (StartsIn w3 (fun k => k < w3.heap.size) aT ST) := hid (by
            rw [← hSe.out]
            exact (HT.out.1.kept (fun b hb => HK3.out.b.block b hb)).mono (fun b hb => Nat.lt_of_lt_of_le hb HK3.out.b.size))
          have HCC : Hid (M ≤ cT ∧ cT ≤ 9223372036854775807) := hid (by rw [← hTM, ← HTN.out]; exact HT.out.2)
          have HTM := hid hTM
          clear h0 hSe hTM
          go_wp2_with fail
          go_meet
          exact ⟨aT, cT, by rw [HTM.out], HIN2, HCC, HK3⟩
      case rest =>
        obtain ⟨A, c, rfl, hSt, hCc, hKc⟩ := hcut
        obtain ⟨x0', x1', x2', x3', x4', x5', x6', x7', x8'⟩ := BoxC.cells hKc.out.x
        clear x0 x1 x2 x3 x4 x5 x6 x7 x8 g0 g1 g2 g3 gl x0' x1' x2' x5' x6' x7' x8'
        have HCS : Hid (w.heap.size + 2 ≤ wc.heap.size) := hid hKc.out.g.lt
        go_wp2
        go_step3
        go_wp2
        clear x3' x4'
        have hPm : PN ≤ 9223372036854775807 := by rw [← HPN.out]; exact Nat.le_trans HP.out.2.1 HP.out.2.2
        have hMm : M ≤ 9223372036854775807 := Nat.le_trans hCc.out.1 hCc.out.2
        go_loopw [6, 8, 10, 33, 39] (fun v _ _ iv _ wr => ∃ (i n : Nat) (B : Option Addr) (e : Nat), v = .slice B n e ∧ iv = .int .i64 (i : Int) ∧ i ≤ PN ∧ Hid (n = i * M) ∧ Hid (wr.ownsRow wc.heap.size 66 4 (.slice B n e) n (timeVals ((x.pats.take i).flatMap fun k => timesOf k LN ST))) ∧ Hid (KT w #[.string (ba x.code), .string (ba x.course), .string (ba x.part), .int .i64 LN, .slice aP PN cP, .int .i64 x.seats, .slice aF x.feats.length cF, .slice aS x.staff.length cS, .slice aT TN cT] d s b m wr) ∧ Hid (Below wc.heap.size wc wr)) (fun _ _ _ iv _ _ => PN - (RowKit.intOf iv).toNat)
        case atStart => exact ⟨0, 0, none, 0, rfl, rfl, Nat.zero_le _, hid (by simp), hid (by simp only [List.take_zero, List.flatMap_nil]; exact World.ownsRow_nil _ _ _ _), hKc, hid (Below.refl _ _)⟩
        case round =>
          obtain ⟨i, n, B, e, rfl, rfl, hi, hn, hrow, hK4, hB4⟩ := hrel
          by_cases hlt : i < PN
          · have hltz : (i : Int) < (PN : Int) := by omega
            have hlt' : i < x.pats.length := by rw [HPN.out]; exact hlt
            obtain ⟨pb, po, rfl, _, hpc⟩ := (HP.out.1.kept (fun b hb => hK4.out.b.block b hb)).num hlt'
            have hfl := flat_succ x.pats (fun k => timesOf k LN ST) i hlt'
            obtain ⟨K, hKe⟩ : ∃ K, x.pats[i] = K := ⟨_, rfl⟩
            rw [hKe] at hpc hfl
            have HFL := hid hfl
            clear hKe hfl hlt'
            go_wp2
            clear hpc
            go_loopw [6, 10, 39] (fun v _ jv wr => ∃ (j n : Nat) (B : Option Addr) (e : Nat), v = .slice B n e ∧ jv = .int .i64 (j : Int) ∧ j ≤ M ∧ Hid (n = i * M + j) ∧ Hid (wr.ownsRow wc.heap.size 66 4 (.slice B n e) n (timeVals ((x.pats.take i).flatMap (fun k => timesOf k LN ST) ++ timesOf K LN (ST.take j)))) ∧ Hid (KT w #[.string (ba x.code), .string (ba x.course), .string (ba x.part), .int .i64 LN, .slice (some ⟨pb, po, none⟩) PN cP, .int .i64 x.seats, .slice aF x.feats.length cF, .slice aS x.staff.length cS, .slice aT TN cT] d s b m wr) ∧ Hid (Below wc.heap.size wc wr)) (fun _ _ jv _ => M - (RowKit.intOf jv).toNat)
            case atStart => exact ⟨0, n, B, e, rfl, rfl, Nat.zero_le _, hid (by have := hn.out; omega), hid (by rw [List.take_zero, show timesOf K LN [] = [] from rfl, List.append_nil]; exact hrow.out), hK4, hB4⟩
            case round =>
              obtain ⟨j, n2, B2, e2, rfl, rfl, hj, hn2, hrow2, hK5, hB5⟩ := hrel
              by_cases hltj : j < M
              · have hltjz : (j : Int) < (M : Int) := by omega
                have hn4 : n2 < 4096 := by
                  have h1 := Nat.mul_le_mul_right M (show i + 1 ≤ PN from hlt)
                  rw [Nat.succ_mul] at h1
                  have := hn2.out
                  omega
                have hn4b : ((n2 : Int) == 4096) = false := by
                  rw [beq_eq_false_iff_ne]
                  omega
                have hltj' : j < ST.length := by rw [HM.out]; exact hltj
                have hSr : StartsIn wr (fun k => k < wc.heap.size) A ST := hSt.out.kept (fun b hb => hB5.out.block b hb)
                obtain ⟨sb, so, rfl, _, s0, s1⟩ := hSr.start hltj'
                have hts := timesOf_succ K LN ST j hltj'
                obtain ⟨⟨y, t⟩, hyt⟩ : ∃ p, ST[j] = p := ⟨_, rfl⟩
                rw [hyt] at s0 s1 hts
                dsimp only at s0 s1 hts
                have HTS := hid hts
                clear hSr hltj' hyt hts
                have hS := BoxS.new wr (.int .i64 y) (.int .i64 t)
                have hb6 := (Below.refl wr.heap.size wr).alloc (Nat.le_refl _) (.cells #[.int .i64 y, .int .i64 t] 74)
                have hK6 := hK5.out.next hb6
                have hB6 := hB5.out.trans (hb6.mono hB5.out.size)
                have HR6 := hid (row_under hrow2.out hb6)
                obtain ⟨q0, q1⟩ := hS.cells
                obtain ⟨_, _, _, x3, _⟩ := BoxC.cells hK6.x
                have HK6 := hid hK6
                have HB6 := hid hB6
                have HM5 : Hid (n2 + 1 ≤ maxLen) := hid (by unfold maxLen; omega)
                have HBY : Hid ((n2 + 1) * 32 ≤ 140737488355328) := hid (by omega)
                clear hS hb6 hK6 hB6
                go_wp2_with fail
                generalize wr.alloc (.cells #[.int .i64 y, .int .i64 t] 74) = w6 at HR6 HK6 HB6 q0 q1 x3 ⊢
                refine (timeAt_any y t K LN w6).mono ?_
                unfold Says
                rintro e w7 ⟨rfl, hb7⟩
                have HR7 := hid (row_under HR6.out hb7)
                have HK7 := hid (HK6.out.next hb7)
                have HB7 := hid (HB6.out.trans (hb7.mono HB6.out.size))
                clear hb7 q0 q1 x3 s0 s1
                have HSZ : Hid (∀ o : Obj, wc.heap.size ≤ (w7.alloc o).heap.size) := hid (fun o => by have := HB7.out.size; simp; omega)
                go_wp2_with (at_builtin; refine wpList_append_own _ rfl _ _ 35 rfl wc.heap.size 66 i9 (.agg #[.int .i64 0, .int .i64 0, .int .i64 0, .int .i64 0]) 4 32 Tryz.underlying35 hi9 hz9 hsi9 hby9 rfl (by decide) _ n2 (timeVals ((x.pats.take i).flatMap (fun k => timesOf k LN ST) ++ timesOf K LN (ST.take j))) rfl (World.ownsRow.alloc HR7.out _) ⟨w7.heap.size, 0, none⟩ 1 1 (timeVs (K, y, t, LN)) rfl rfl (four_new w7 K y t LN 66) (times_one _) HM5.out HBY.out (HSZ.out _) ?_)
                intro v' w8 hown' hgrow _
                have hg' := grownBy_of_alloc hgrow
                obtain ⟨g', cap', rfl⟩ := ownsRow_succ (k := n2) hown'
                have HOwn := hid hown'
                have hrl : ∀ k, (Value.slice B2 n2 e2).ownBlock = some k → wc.heap.size ≤ k := fun k hk => (World.ownsRow.lt HR7.out k hk).1
                have HK8 := hid (HK7.out.row HCS.out hg' hrl)
                have HB8 : Hid (Below wc.heap.size wc w8) := hid (HB7.out.grown hg' HB7.out.size hrl)
                clear hg' hgrow hown' hrl
                go_wp2_with fail
                go_roundw
                case rel =>
                  refine ⟨j + 1, n2 + 1, _, _, rfl, by go_num, by omega, hid (by have := hn2.out; omega), hid ?_, HK8, HB8⟩
                  rw [HTS.out, ← List.append_assoc, timeVals_app]
                  simpa [timeVals] using HOwn.out
                case measure => simp [RowKit.intOf]; omega
              · have hltjz : ¬ (j : Int) < (M : Int) := by omega
                have hjM : j = M := by omega
                have HR3 : Hid (wr.ownsRow wc.heap.size 66 4 (.slice B2 n2 e2) n2 (timeVals ((x.pats.take (i + 1)).flatMap fun k => timesOf k LN ST))) := hid (by
                  have h := hrow2.out
                  rw [show ST.take j = ST from List.take_of_length_le (by rw [HM.out]; omega), ← HFL.out] at h
                  exact h)
                have HN3 : Hid (n2 = (i + 1) * M) := hid (by have := hn2.out; rw [hjM] at this; rw [Nat.succ_mul]; exact this)
                clear hjM
                go_wp2
                go_roundw
                case rel => exact ⟨i + 1, n2, B2, e2, rfl, by go_num, by omega, HN3, HR3, hK5, hB5⟩
                case measure => simp [RowKit.intOf]; omega
          · have hltz : ¬ (i : Int) < (PN : Int) := by omega
            have HRF : Hid (TimeRow wr w.heap.size (.slice B n e) (x.pats.flatMap fun k => timesOf k LN ST)) := hid (by
              have h := hrow.out
              rw [show x.pats.take i = x.pats from List.take_of_length_le (by rw [HPN.out]; omega)] at h
              have hl : n = (x.pats.flatMap fun k => timesOf k LN ST).length := by
                have := hn.out
                have hi2 : i = PN := by omega
                rw [hi2] at this
                rw [this, ← HPN.out, List.length_flatMap]
                simp only [timesOf, List.length_map, HM.out]
                exact (sum_const M x.pats).symm
              unfold TimeRow
              rw [← hl]
              exact rowLow h (by have := HCS.out; omega))
            go_wp2
            try rw [Exit.noGoto_ret]
            go_ret
            exact ⟨⟨_, rfl, HRF.out⟩, hK4.out.b⟩
    · rw [if_neg (fun h => hl ⟨h.2.1, h.2.2⟩)]
      have cL := fun w => isLength_any x.len d s b m w
      rw [decide_eq_false hl] at cL
      unfold Says at cL
      have CL := hid cL
      obtain ⟨LN, hLN⟩ : ∃ LN, x.len = LN := ⟨_, rfl⟩
      rw [hLN] at CL HK HZ1 ⊢
      clear cL hl htot hgp hLN
      go_enter Tryz.func11, Tryz.ntmps11
      go_wp2
      go_step3
      go_upto_region 1 with fail
      generalize World.alloc _ _ = w1 at HK HZ1 ⊢
      obtain ⟨g0, g1, g2, g3, gl⟩ := HK.out.g
      obtain ⟨x0, x1, x2, x3, x4, x5, x6, x7, x8⟩ := BoxC.cells HK.out.x
      go_wp2_with fail
      refine (CG.out _).mono ?_
      rintro e w2 ⟨rfl, hb⟩
      have hk2 := HK.out.next hb
      obtain ⟨x0', x1', x2', x3', x4', x5', x6', x7', x8'⟩ := BoxC.cells hk2.x
      obtain ⟨g0', g1', g2', g3', gl'⟩ := hk2.g
      have HK2 := hid hk2
      clear hb hk2 x0 x1 x2 x3 x4 x5 x6 x7 x8 g0 g1 g2 g3 gl
      go_wp2_with fail
      refine (CL.out _).mono ?_
      rintro e w3 ⟨rfl, hb⟩
      have HB := hid (HK2.out.next hb).b
      clear hb x0' x1' x2' x3' x4' x5' x6' x7' x8' g0' g1' g2' g3' gl'
      go_wp2
      try rw [Exit.noGoto_ret]
      go_ret
      exact ⟨⟨_, rfl, World.ownsRow_nil _ _ _ _⟩, HB.out⟩
end Go.Proofs.YtigdcgklpapfbaaGreatDoor.S10

set_option linter.unusedVariables false
namespace Go.Proofs.YtigdcgklpapfbaaGreatDoor
open Go Go.Proofs Go.RowKit Go.Lib

/-- The slice at A holds slices that hold the lists ls, all in blocks with P. -/
def RowsIn (w : World) (P : Nat → Prop) (A : Option Addr) (ls : List (List Str)) : Prop :=
  ls = [] ∨ ∃ b off, A = some ⟨b, off, none⟩ ∧ P b ∧ ∀ (j : Nat) (l : List Str), ls[j]? = some l → ∃ A' c', w.cell? ⟨b, off + j, none⟩ = some (.slice A' l.length c') ∧ l.length ≤ c' ∧ c' ≤ 9223372036854775807 ∧ S3.StrsIn w P A' l
theorem RowsIn.kept {w w' : World} {P : Nat → Prop} {A : Option Addr} {ls : List (List Str)} (h : RowsIn w P A ls) (hk : ∀ b, P b → w'.heap[b]? = w.heap[b]?) : RowsIn w' P A ls := by
  rcases h with h | ⟨b, off, hA, hP, hc⟩
  · exact .inl h
  · refine .inr ⟨b, off, hA, hP, fun j l hj => ?_⟩
    obtain ⟨A', c', h1, h2, h3, h4⟩ := hc j l hj
    exact ⟨A', c', (World.cell?_of_block (w := w) (hk b hP)).trans h1, h2, h3, h4.kept hk⟩
theorem RowsIn.mono {w : World} {P P' : Nat → Prop} {A : Option Addr} {l : List (List Str)} (h : RowsIn w P A l) (hP : ∀ b, P b → P' b) : RowsIn w P' A l := by
  rcases h with h | ⟨b, off, hA, hb, hc⟩
  · exact .inl h
  · refine .inr ⟨b, off, hA, hP b hb, fun j r hj => ?_⟩
    obtain ⟨A', c', h1, h2, h3, h4⟩ := hc j r hj
    exact ⟨A', c', h1, h2, h3, h4.mono hP⟩
theorem RowsIn.below {w w' : World} {B : Nat} {A : Option Addr} {l : List (List Str)} (h : RowsIn w (fun b => b < B) A l) (hb : Below B w w') : RowsIn w' (fun b => b < B) A l := h.kept fun b hB => hb.block b hB
theorem RowsIn.at_ {w : World} {P : Nat → Prop} {A : Option Addr} {ls : List (List Str)} (h : RowsIn w P A ls) {k : Nat} (hk : k < ls.length) :
    ∃ b off A' c', A = some ⟨b, off, none⟩ ∧ P b ∧ w.cell? ⟨b, off + k, none⟩ = some (.slice A' ls[k].length c') ∧ ls[k].length ≤ c' ∧ c' ≤ 9223372036854775807 ∧ S3.StrsIn w P A' ls[k] := by
  rcases h with h | ⟨b, off, hA, hP, hc⟩
  · subst h; simp at hk
  · obtain ⟨A', c', h1, h2, h3, h4⟩ := hc k _ (List.getElem?_eq_getElem hk)
    exact ⟨b, off, A', c', hA, hP, h1, h2, h3, h4⟩
end Go.Proofs.YtigdcgklpapfbaaGreatDoor

set_option linter.unusedVariables false
namespace Go.Proofs.YtigdcgklpapfbaaGreatDoor
open Go Go.Proofs Go.RowKit Go.Lib

/-- The fields of a record that stands without quotes: each with the column at which it begins. -/
def colsM : Int → List Str → List FieldD
  | _, [] => []
  | c, s :: r => (s, c, false) :: colsM (c + ((s.length : Int) + 1)) r
def colAt : Int → List Str → Int
  | c, [] => c
  | c, s :: r => colAt (c + ((s.length : Int) + 1)) r
theorem colsM_app : ∀ (c : Int) (a b : List Str), colsM c (a ++ b) = colsM c a ++ colsM (colAt c a) b
  | c, [], b => rfl
  | c, s :: r, b => by simp [colsM, colAt, colsM_app _ r b]
theorem colAt_snoc : ∀ (c : Int) (a : List Str) (s : Str), colAt c (a ++ [s]) = colAt c a + ((s.length : Int) + 1)
  | c, [], s => rfl
  | c, t :: r, s => by simp [colAt, colAt_snoc _ r s]
theorem colsM_len : ∀ (c : Int) (a : List Str), (colsM c a).length = a.length
  | c, [] => rfl
  | c, s :: r => by simp [colsM, colsM_len _ r]
theorem colAt_range : ∀ (c : Int) (a : List Str), (∀ s ∈ a, s.length ≤ 1000000) → c ≤ colAt c a ∧ colAt c a ≤ c + a.length * 1000001
  | c, [], _ => by simp [colAt]
  | c, s :: r, h => by
    have h1 := h s (by simp)
    have h2 := colAt_range (c + ((s.length : Int) + 1)) r (fun t ht => h t (by simp [ht]))
    simp only [colAt, List.length_cons]
    omega
def plainM (l : List (List Str)) : List RecD := l.mapIdx fun i r => ((i : Int) + 1, colsM 1 r)
theorem plainM_len (l : List (List Str)) : (plainM l).length = l.length := by simp [plainM]
theorem plainM_take (l : List (List Str)) (i : Nat) (h : i < l.length) : plainM (l.take (i + 1)) = plainM (l.take i) ++ [((i : Int) + 1, colsM 1 l[i])] := by
  rw [List.take_succ_eq_append_getElem h]
  unfold plainM
  rw [List.mapIdx_append]
  congr 1
  simp [Nat.min_eq_left (Nat.le_of_lt h)]
theorem infoField : (Tryz.prog.info? 107).map (fun i => (i.zero, i.size, i.bytes)) = some (some (.agg #[.string ⟨#[]⟩, .int .i64 0, .bool false]), 3, 32) := by kernel_rfl
theorem infoRec : (Tryz.prog.info? 45).map (fun i => (i.zero, i.size, i.bytes)) = some (some (.agg #[.int .i64 0, .slice none 0 0]), 2, 32) := by kernel_rfl
def fieldVals (l : List FieldD) : List Value := l.flatMap fieldVs
theorem fieldVals_app (a b : List FieldD) : fieldVals (a ++ b) = fieldVals a ++ fieldVals b := by simp [fieldVals]
theorem fieldVals_get : ∀ (l : List FieldD) (j : Nat) (t : FieldD), l[j]? = some t → ∀ (i : Nat) (v : Value), (fieldVs t)[i]? = some v → (fieldVals l)[j * 3 + i]? = some v
  | [], j, t, h, _, _, _ => by simp at h
  | a :: r, 0, t, h, i, v, hv => by
    simp at h
    subst h
    have hi : i < 3 := (List.getElem?_eq_some_iff.1 hv).1
    unfold fieldVals
    rw [List.flatMap_cons, List.getElem?_append_left (by show _ < 3; omega)]
    simpa using hv
  | a :: r, j + 1, t, h, i, v, hv => by
    have := fieldVals_get r j t (by simpa using h) i v hv
    unfold fieldVals at this ⊢
    rw [List.flatMap_cons, List.getElem?_append_right (by show 3 ≤ _; omega)]
    show (List.flatMap fieldVs r)[(j + 1) * 3 + i - 3]? = _
    rw [show (j + 1) * 3 + i - 3 = j * 3 + i by omega]
    exact this
def FieldRow (w : World) (B : Nat) (v : Value) (l : List FieldD) : Prop := w.ownsRow B 107 3 v l.length (fieldVals l)
theorem FieldRow.fieldsIn {w : World} {B : Nat} {v : Value} {l : List FieldD} (h : FieldRow w B v l) : ∃ A c, v = .slice A l.length c ∧ l.length ≤ c ∧ c ≤ 9223372036854775807 ∧ FieldsIn w (fun b => v.ownBlock = some b) A l := by
  have h' := h
  rcases h.2 with ⟨hv, h0⟩ | ⟨g, cap, cur, hv, hB, hg, h1, h2, _⟩
  · have hl : l = [] := List.eq_nil_of_length_eq_zero h0
    subst hl
    exact ⟨none, 0, hv, Nat.le_refl _, by omega, .inl rfl⟩
  · refine ⟨_, cap, hv, h1, by unfold maxLen at h2; omega, .inr ⟨g, 0, rfl, by rw [hv]; rfl, fun j t hj i v' hv' => ?_⟩⟩
    have := World.ownsRow.cells h' (g := g) (by rw [hv]; rfl) (j * 3 + i) v' (fieldVals_get l j t hj i v' hv')
    rw [Addr.add_lit] at this
    rw [← Nat.add_assoc] at this
    exact this
abbrev RecA := RecD × (Option Addr × Nat)
def recVs (p : RecA) : List Value := [.int .i64 p.1.1, .slice p.2.1 p.1.2.length p.2.2]
def recVals (l : List RecA) : List Value := l.flatMap recVs
theorem recVals_app (a b : List RecA) : recVals (a ++ b) = recVals a ++ recVals b := by simp [recVals]
theorem recVals_get : ∀ (l : List RecA) (j : Nat) (t : RecA), l[j]? = some t → ∀ (i : Nat) (v : Value), (recVs t)[i]? = some v → (recVals l)[j * 2 + i]? = some v
  | [], j, t, h, _, _, _ => by simp at h
  | a :: r, 0, t, h, i, v, hv => by
    simp at h
    subst h
    have hi : i < 2 := (List.getElem?_eq_some_iff.1 hv).1
    unfold recVals
    rw [List.flatMap_cons, List.getElem?_append_left (by show _ < 2; omega)]
    simpa using hv
  | a :: r, j + 1, t, h, i, v, hv => by
    have := recVals_get r j t (by simpa using h) i v hv
    unfold recVals at this ⊢
    rw [List.flatMap_cons, List.getElem?_append_right (by show 2 ≤ _; omega)]
    show (List.flatMap recVs r)[(j + 1) * 2 + i - 2]? = _
    rw [show (j + 1) * 2 + i - 2 = j * 2 + i by omega]
    exact this
/-- A slice of records that the call owns; what they lead to lies in the call's own blocks, and not in the slice's. -/
def RecRow (w : World) (B : Nat) (v : Value) (l : List RecD) : Prop := ∃ L : List RecA, L.map (·.1) = l ∧ w.ownsRow B 45 2 v L.length (recVals L) ∧
  ∀ p ∈ L, FieldsIn w (fun b => B ≤ b ∧ b < w.heap.size ∧ v.ownBlock ≠ some b) p.2.1 p.1.2 ∧ p.1.2.length ≤ p.2.2 ∧ p.2.2 ≤ 9223372036854775807
theorem RecRow.recsIn {w : World} {B : Nat} {v : Value} {l : List RecD} (h : RecRow w B v l) : ∃ A c, v = .slice A l.length c ∧ l.length ≤ c ∧ c ≤ 9223372036854775807 ∧ RecsIn w (fun b => B ≤ b ∧ b < w.heap.size) A l := by
  obtain ⟨L, rfl, h, hL⟩ := h
  have h' := h
  have hn : (L.map (·.1)).length = L.length := List.length_map _
  rcases h.2 with ⟨hv, h0⟩ | ⟨g, cap, cur, hv, hB, hg, h1, h2, _⟩
  · have hl : L = [] := List.eq_nil_of_length_eq_zero h0
    subst hl
    exact ⟨none, 0, by rw [hv]; rfl, Nat.le_refl _, by omega, .inl rfl⟩
  · refine ⟨_, cap, by rw [hn]; exact hv, by rw [hn]; exact h1, by unfold maxLen at h2; omega, .inr ⟨g, 0, rfl, ⟨hB, (Array.getElem?_eq_some_iff.1 hg).1⟩, fun j r hj => ?_⟩⟩
    rw [List.getElem?_map] at hj
    obtain ⟨p, hp, rfl⟩ := Option.map_eq_some_iff.1 hj
    obtain ⟨f1, f2, f3⟩ := hL p (List.mem_of_getElem? hp)
    refine ⟨p.2.1, p.2.2, f1.mono (fun b hb => ⟨hb.1, hb.2.1⟩), f2, f3, ?_, ?_⟩
    · have := World.ownsRow.cells h' (g := g) (by rw [hv]; rfl) (j * 2 + 0) _ (recVals_get L j p hp 0 _ rfl)
      rw [Addr.add_lit] at this
      rw [← Nat.add_assoc] at this
      exact this
    · have := World.ownsRow.cells h' (g := g) (by rw [hv]; rfl) (j * 2 + 1) _ (recVals_get L j p hp 1 _ rfl)
      rw [Addr.add_lit] at this
      rw [← Nat.add_assoc] at this
      exact this
end Go.Proofs.YtigdcgklpapfbaaGreatDoor

