/-
  The rows of buildings between which no way is known: slices.Repeat of one number, noWays of travel. Conditions: at most 8 buildings.
  The rows of buildings between which no way is known: noWays of travel. Conditions: at most 8 buildings.
-/
import Derived.Test.YtocmbifljkcmeaaDoorR8U
import Derived.Test.YtocmbifljkcmeaaDoorShelf
import Derived.Laws.CopyOwn
import Derived.StillTailTactics
import Derived.Deep.RegionLaw
set_option linter.unusedVariables false
namespace Go.Proofs.YtocmbifljkcmeaaDoor
open Go Go.Proofs Go.RowKit Go.Lib

/-- A block of n cells, of which the first k hold x. -/
def Fill (w : World) (g n k : Nat) (x : Int) : Prop := ∃ cur : Array Value, w.heap[g]? = some (.cells cur 3 (0, 0)) ∧ cur.size = n ∧ ∀ j, j < k → cur[j]? = some (.int .i64 x)
theorem Fill.cell {w : World} {g n k : Nat} {x : Int} (h : Fill w g n k x) {j : Nat} (hj : j < k) : w.cell? ⟨g, j, none⟩ = some (.int .i64 x) := by
  obtain ⟨cur, h1, _, h3⟩ := h
  rw [Lib.cell_of_heap h1]
  exact h3 j hj
theorem Fill.free {w : World} {g n k : Nat} {x : Int} (h : Fill w g n k x) (j : Nat) : w.frozen? ⟨g, j, none⟩ = false := by
  obtain ⟨cur, h1, _, _⟩ := h
  simp [World.frozen?, h1]
theorem Fill.lt {w : World} {g n k : Nat} {x : Int} (h : Fill w g n k x) : g < w.heap.size := by
  obtain ⟨cur, h1, _, _⟩ := h
  exact (Array.getElem?_eq_some_iff.1 h1).1
theorem Fill.row {w : World} {g n m off : Nat} {x : Int} {cur : Array Value} (hg : w.heap[g]? = some (.cells cur 3 (0, 0))) (hs : cur.size = n) (hc : ∀ j, j < off → cur[j]? = some (.int .i64 x)) (hm : off + m ≤ n) :
    Fill (w.setRow g (cur.toList.take off ++ ((List.replicate m (Value.int .i64 x)) ++ cur.toList.drop (off + (List.replicate m (Value.int .i64 x)).length))).toArray) g n (off + m) x := by
  refine ⟨_, setRow_heap w g cur _ _ (0, 0) hg, by simp; omega, fun j hj => ?_⟩
  simp only [List.getElem?_toArray, List.length_replicate]
  by_cases h1 : j < off
  · rw [List.getElem?_append_left (by simp; omega), List.getElem?_take, if_pos h1, Array.getElem?_toList]
    exact hc j h1
  · rw [List.getElem?_append_right (by simp; omega)]
    simp only [List.length_take, Array.length_toList]
    rw [List.getElem?_append_left (by simp; omega), List.getElem?_replicate, if_pos (by omega)]
/-- copy into a row of the call's own, in a region that draws its order. -/
theorem step_copy_own {P : Program} {w : World} {ops : Array Oper} {o : Oper} {a : Act} {K : Act → World → Prop} {Q : Exit → Act → World → Prop} {E : Prop} (hgd : o.guard = none) (d s : Operand) (dT sT : TypeId)
    (ho : o.op = .call { callee := .builtin .copy, args := #[d, s], argTypes := #[dT, sT] }) (elem : TypeId) (hu : P.underlying dT = some (.slice elem)) (hsz : (P.info? elem).map (·.size) = some 1)
    (g off dLen dCap : Nat) (ad : Addr) (sLen sCap : Nat) (hd : a.eval d = .slice (some ⟨g, off, none⟩) dLen dCap) (hs : a.eval s = .slice (some ad) sLen sCap)
    (cur : Array Value) (t : TypeId) (hg : w.heap[g]? = some (.cells cur t (0, 0))) (cs : List Value) (hn : cs.length = Nat.min sLen dLen)
    (hsrc : ∀ j v, cs[j]? = some v → w.cell? (ad.add j) = some v) (hfit : off + cs.length ≤ cur.size) (h1 : ∀ v ∈ cs, v.oneCell' = true) (W : World) (hW : w.setRow g (cur.toList.take off ++ (cs ++ cur.toList.drop (off + cs.length))).toArray = W)
    (h : K (a.put o.dst (goInt cs.length)) W) : if Region.wanted o (yielded ops a.tmps) = true then Oper.wp P o a w K Q else E := by
  have hw : Region.wanted o (yielded ops a.tmps) = true := by simp [Region.wanted, hgd]
  rw [if_pos hw]
  have hrun := run_copy_row (P := P) w dT sT o.type elem g off dLen dCap ad sLen sCap cur t cs hu hsz hg hn hsrc hfit h1
  unfold Oper.wp
  simp [execOp, ho, resolve, invoke, builtin, hd, hs, hrun, Result.andThen]
  subst hW
  exact h
/-- What Repeat of one number leaves behind. -/
def RepOut (n : Nat) (x : Int) (w : World) (e : Ending) (w' : World) : Prop := (∃ g, e = .returned (.slice (some ⟨g, 0, none⟩) n n) ∧ w.heap.size ≤ g ∧ Fill w' g n n x) ∧ Below w.heap.size w w'
set_option maxHeartbeats 8000000 in
set_option maxRecDepth 100000 in
theorem repeat_any (b c n : Nat) (x : Int) (w : World) (hx : w.cell? ⟨b, 0, none⟩ = some (.int .i64 x)) (hn0 : 0 < n) (hn : n ≤ 8) :
    Calls Tryd.prog 65 #[.slice (some ⟨b, 0, none⟩) 1 c, .int .i64 (n : Int)] w (RepOut n x w) := by
  obtain ⟨iN, hiN, hzN, hsN, hbN⟩ := info_parts infoInt
  have cM := Tryd.bits_Mul 1 n (by decide) (by omega) w
  rw [show 1 * n / 18446744073709551616 = 0 by omega, show 1 * n % 18446744073709551616 = n by omega] at cM
  have CM := hid cM
  have hn1 : ¬ (n : Int) < 0 := by omega
  have hn2 : ¬ (9223372036854775807 : Int) < (n : Int) := by omega
  have hw1 : IntKind.u64.wrap (n : Int) = (n : Int) := IntWalk.u64_in _ (by omega)
  have hw2 : IntKind.i64.wrap (n : Int) = (n : Int) := IntWalk.i64_in _ (by omega)
  have HX := hid hx
  have hb := World.block_lt_of_cell? w _ hx
  have HBL : Hid (b < w.heap.size) := hid hb
  have HB8 : Hid (iN.bytes * n ≤ 281474976710656) := hid (by rw [hbN]; omega)
  have HML : Hid (n ≤ maxLen) := hid (by unfold maxLen; omega)
  clear cM hx hb
  unfold RepOut
  go_enter Tryd.func65, Tryd.ntmps65
  go_wp2_with fail
  refine CM.out.mono ?_
  rintro e w1 ⟨rfl, rfl⟩
  go_wp2_with (at_make; refine wpList_make_full _ rfl _ _ 48 rfl w1.heap.size 3 iN (.int .i64 0) 1 Tryd.underlying48 hiN hzN hsN .i64 .i64 (n : Int) (n : Int) n rfl rfl rfl rfl HB8.out HML.out (Nat.le_refl _) ?_)
  intro w2 hown hgrow
  have hB2 : Below w1.heap.size w1 w2 := ⟨hgrow.os, hgrow.tape, hgrow.output, hgrow.size, fun k hk => hgrow.block k hk (by simp)⟩
  have hkd : ∃ cur : Array Value, w2.heap[w1.heap.size]? = some (.cells cur 3 (0, 0)) ∧ cur.size = n := by
    rcases hown.2 with ⟨h, _⟩ | ⟨g', cap', cur, h1, _, h3, h4, _, h6, _⟩
    · cases h
    · injection h1 with h1 _ h5
      injection h1 with h1
      injection h1 with h1
      subst h1
      exact ⟨cur, h3, by omega⟩
  obtain ⟨cur, hg, hcs⟩ := hkd
  have hx2 : w2.cell? ⟨b, 0, none⟩ = some (.int .i64 x) := (hB2.cell (p := ⟨b, 0, none⟩) HBL.out).trans HX.out
  have HG := hid hg
  have HCS : Hid ((List.replicate 1 (Value.int .i64 x)).length = Nat.min 1 n) := hid (by rw [List.length_replicate]; exact (Nat.min_eq_left (by omega)).symm)
  have HSRC : Hid (∀ (j : Nat) (v : Value), (List.replicate 1 (Value.int .i64 x))[j]? = some v → w2.cell? ((⟨b, 0, none⟩ : Addr).add j) = some v) := hid (fun j v hj => by
    rw [List.getElem?_replicate] at hj
    split at hj
    · injection hj with hj
      subst hj
      obtain rfl : j = 0 := by omega
      rw [Addr.add_lit]
      exact hx2
    · cases hj)
  have HFIT : Hid (0 + (List.replicate 1 (Value.int .i64 x)).length ≤ cur.size) := hid (by rw [List.length_replicate, hcs]; omega)
  have HONE : Hid (∀ v ∈ List.replicate 1 (Value.int .i64 x), v.oneCell' = true) := hid (fun v hv => by rw [List.eq_of_mem_replicate hv]; rfl)
  have HF1 := hid (Fill.row (m := 1) (off := 0) (x := x) hg hcs (fun j hj => absurd hj (by omega)) (by omega))
  have HB1 := hid (below_setRow hB2 (Nat.le_refl _) (cur.toList.take 0 ++ ((List.replicate 1 (Value.int .i64 x)) ++ cur.toList.drop (0 + (List.replicate 1 (Value.int .i64 x)).length))).toArray)
  clear hown hgrow hB2 hg hcs hx2
  go_wp2_with (with_reducible refine wpList_copy_own rfl (.tmp 31) (.tmp 32) 48 48 rfl 3 Tryd.underlying48 (by kernel_rfl) w1.heap.size 0 n n ⟨b, 0, none⟩ 1 c rfl rfl cur 3 HG.out (List.replicate 1 (.int .i64 x)) HCS.out HSRC.out HFIT.out HONE.out ?_; generalize w2.setRow w1.heap.size _ = w3 at HF1 HB1 ⊢)
  obtain ⟨g, hge⟩ : ∃ g, w1.heap.size = g := ⟨_, rfl⟩
  have HGE := hid hge
  rw [hge] at HF1 HB1 ⊢
  clear hge HG HCS HSRC HFIT HONE
  go_wp2_with fail
  go_loopw [8] (fun kv wr => ∃ k : Nat, kv = .int .i64 (k : Int) ∧ 0 < k ∧ k ≤ n ∧ Hid (Fill wr g n k x) ∧ Hid (Below g w1 wr)) (fun kv _ => n - (RowKit.intOf kv).toNat)
  case atStart => exact ⟨1, rfl, by omega, by omega, HF1, HB1⟩
  case round =>
    clear HF1 HB1
    obtain ⟨k, rfl, hk0, hk, HF, HB⟩ := hrel
    by_cases hlt : k < n
    · have hltz : (k : Int) < (n : Int) := by omega
      have hne : ¬ n = k := by omega
      have hd1 : decide (k ≤ n) = true := decide_eq_true hk
      obtain ⟨cur, hg, hcs, hcc⟩ := HF.out
      obtain ⟨m, hm⟩ : ∃ m, min k (n - k) = m := ⟨_, rfl⟩
      have hm1 : 0 < m ∧ m ≤ n - k ∧ m ≤ k := by
        omega
      have HG : Hid (wr.drew.heap[g]? = some (.cells cur 3 (0, 0))) := hid hg
      have HCS : Hid ((List.replicate m (Value.int .i64 x)).length = Nat.min k (n - k)) := hid (by rw [List.length_replicate]; exact hm.symm)
      have HSRC : Hid (∀ (j : Nat) (v : Value), (List.replicate m (Value.int .i64 x))[j]? = some v → wr.drew.cell? ((⟨g, 0, none⟩ : Addr).add j) = some v) := hid (fun j v hj => by
        rw [List.getElem?_replicate] at hj
        split at hj
        · injection hj with hj
          subst hj
          rw [Addr.add_lit, Nat.zero_add]
          exact HF.out.cell (by omega)
        · cases hj)
      have HFIT : Hid (k + (List.replicate m (Value.int .i64 x)).length ≤ cur.size) := hid (by rw [List.length_replicate, hcs]; omega)
      have HONE : Hid (∀ v ∈ List.replicate m (Value.int .i64 x), v.oneCell' = true) := hid (fun v hv => by rw [List.eq_of_mem_replicate hv]; rfl)
      have HF2 := hid (Fill.row (m := m) (off := k) (x := x) (w := wr.drew) hg hcs hcc (by omega))
      have HB2 := hid (below_setRow (HB.out.drew) (Nat.le_refl g) (cur.toList.take k ++ ((List.replicate m (Value.int .i64 x)) ++ cur.toList.drop (k + (List.replicate m (Value.int .i64 x)).length))).toArray)
      have hw3 : IntKind.i64.wrap ((k : Int) + (m : Int)) = (k : Int) + (m : Int) := IntWalk.i64_in _ (by omega)
      clear hg hcs hcc HF HB hm
      obtain ⟨w5, hw5⟩ : ∃ W, wr.drew.setRow g (cur.toList.take k ++ ((List.replicate m (Value.int .i64 x)) ++ cur.toList.drop (k + (List.replicate m (Value.int .i64 x)).length))).toArray = W := ⟨_, rfl⟩
      rw [hw5] at HF2 HB2
      have HW5 := hid hw5
      have HGI : Hid (goInt (List.replicate m (Value.int .i64 x)).length = .int .i64 (m : Int)) := hid (by rw [List.length_replicate]; rfl)
      clear hw5
      go_upto_region 9 with fail
      go_region_law (refine step_copy_own rfl (.tmp 41) (.tmp 44) 48 48 rfl 3 Tryd.underlying48 (by kernel_rfl) g k (n - k) (n - k) ⟨g, 0, none⟩ k n (by simp [Act.eval, Act.put]) (by simp [Act.eval, Act.put]) cur 3 HG.out (List.replicate m (.int .i64 x)) HCS.out HSRC.out HFIT.out HONE.out w5 HW5.out ?_; rw [HGI.out])
      go_simp
      go_wp2
      go_roundw
      case rel => exact ⟨k + m, by go_num, by omega, by omega, HF2, HB2⟩
      case measure => simp [RowKit.intOf]; omega
    · have hltz : ¬ (k : Int) < (n : Int) := by omega
      obtain rfl : k = n := by omega
      go_wp2
      go_ret
      refine ⟨⟨g, rfl, Nat.le_of_eq HGE.out, HF.out⟩, ?_⟩
      rw [HGE.out]
      exact HB.out
end Go.Proofs.YtocmbifljkcmeaaDoor

set_option linter.unusedVariables false
namespace Go.Proofs.YtocmbifljkcmeaaDoor
open Go Go.Proofs Go.RowKit Go.Lib

/-- What noWays leaves behind. -/
def NoOut (n : Nat) (w : World) (e : Ending) (w' : World) : Prop := (∃ v, e = .returned v ∧ ∃ rb rc : Nat → Nat, TB w' w.heap.size v n n rb rc unkF) ∧ Below w.heap.size w w'
set_option maxHeartbeats 8000000 in
set_option maxRecDepth 100000 in
theorem noWays_any (n : Nat) (w : World) (hn : n ≤ 8) : Calls Tryd.prog 57 #[.int .i64 (n : Int)] w (NoOut n w) := by
  obtain ⟨iI, hiI, hzI, hsI, hbI⟩ := info_parts infoInts
  unfold NoOut
  go_enter Tryd.func57, Tryd.ntmps57
  go_wp2
  go_loopw [3, 4, 5, 7] (fun v _ _ iv wr => ∃ (i : Nat) (rb rc : Nat → Nat), iv = .int .i64 (i : Int) ∧ i ≤ n ∧ Hid (TB wr w.heap.size v i n rb rc unkF) ∧ Hid (Below w.heap.size w wr)) (fun _ _ _ iv _ => n - (RowKit.intOf iv).toNat)
  case atStart => exact ⟨0, _, _, rfl, Nat.zero_le _, hid (TB.nil _ _ _ _), hid (Below.refl _ _)⟩
  case round =>
    obtain ⟨i, rb, rc, rfl, hi, HT, HB⟩ := hrel
    obtain ⟨At, ct, hvt⟩ := HT.out.slice
    subst hvt
    by_cases hlt : i < n
    · have hltz : (i : Int) < (n : Int) := by omega
      have hd : decide (n ≤ i) = false := decide_eq_false (by omega)
      have hx0 : (wr.alloc (.cells #[.int .i64 (-1)] 3)).cell? ⟨wr.heap.size, 0, none⟩ = some (.int .i64 (-1)) := by rw [Lib.cell_of_heap (heap_alloc_new wr _)]; rfl
      have hb1 : Below wr.heap.size wr (wr.alloc (.cells #[.int .i64 (-1)] 3)) := (Below.refl _ wr).alloc (Nat.le_refl _) _
      have hs1 : (wr.alloc (.cells #[.int .i64 (-1)] 3)).heap.size = wr.heap.size + 1 := by simp
      have cR := repeat_any wr.heap.size 1 n (-1) (wr.alloc (.cells #[.int .i64 (-1)] 3)) hx0 (by omega) hn
      have CR := hid cR
      have HB1 := hid hb1
      have HS1 := hid hs1
      have HBS := hid HB.out.size
      clear cR hx0 hb1 hs1
      go_wp2_with fail
      refine CR.out.mono ?_
      rintro e w2 ⟨⟨g, rfl, hg0, hF⟩, hb2⟩
      have hbw : Below wr.heap.size wr w2 := HB1.out.trans (hb2.mono (by rw [HS1.out]; omega))
      have z1 := hF.cell hlt
      have z2 := hF.free i
      have hgl := hF.lt
      rw [HS1.out] at hg0
      have HG0 := hid hg0
      have hent : ∀ k, k < n → (w2.setCell ⟨g, i, none⟩ (.int .i64 0)).cell? ⟨g, k, none⟩ = some (.int .i64 (unkF i k)) := fun k hk => by
        unfold unkF
        by_cases hki : i = k
        · subst hki
          rw [if_pos rfl, World.cell?_setCell_same _ _ _ (hF.cell hk)]
        · rw [if_neg hki, World.cell?_setCell_other (h := fun e => hki (congrArg Addr.off e))]
          exact hF.cell hk
      have hfr : ∀ k, k < n → (w2.setCell ⟨g, i, none⟩ (.int .i64 0)).frozen? ⟨g, k, none⟩ = false := fun k hk => by
        rw [World.frozen?_setCell]
        exact hF.free k
      have hbs : Below wr.heap.size wr (w2.setCell ⟨g, i, none⟩ (.int .i64 0)) := hbw.setCell (p := ⟨g, i, none⟩) (by show wr.heap.size ≤ g; omega) _
      have HENT := hid hent
      have HFR := hid hfr
      have HBS2 := hid hbs
      have HGL : Hid (g < (w2.setCell ⟨g, i, none⟩ (.int .i64 0)).heap.size) := hid (by simpa using hgl)
      have HT2 := hid (HT.out.next hbs).own
      have HC3 : Hid (i + 1 ≤ maxLen) := hid (by unfold maxLen; omega)
      have HC4 : Hid ((i + 1) * 24 ≤ 140737488355328) := hid (by omega)
      have HC5 : Hid (∀ o : Obj, w.heap.size ≤ ((w2.setCell ⟨g, i, none⟩ (.int .i64 0)).alloc o).heap.size) := hid (fun o => by have := HBS.out; have := hbs.size; simp at this ⊢; omega)
      obtain ⟨w5, hw5⟩ : ∃ W, w2.setCell ⟨g, i, none⟩ (.int .i64 0) = W := ⟨_, rfl⟩
      rw [hw5] at HENT HFR HBS2 HGL HT2 HC5
      clear hb2 hbw hent hfr hbs hF hg0 hgl
      go_upto_region 7 with fail
      (try rw [hw5])
      clear hw5 z1 z2
      go_wp2_with (at_builtin; refine wpList_append_own_at _ rfl _ _ 23 rfl w.heap.size 48 iI (.slice none 0 0) 1 24 Tryd.underlying23 hiI hzI hsI hbI rfl (by decide) _ i _ rfl (World.ownsRow.alloc HT2.out _) ⟨w5.heap.size, 0, none⟩ 1 1 [.slice (some ⟨g, 0, none⟩) n n] rfl rfl (one_new _ _ _) (one_slice _ _ _) HC3.out HC4.out (HC5.out _) ?_)
      intro v' w6 hown' hgrow _ hat
      have hTB := TB.snoc HT.out HBS.out (by have := HG0.out; omega) HBS2.out HGL.out HENT.out HFR.out ⟨Nat.le_refl _, by omega⟩ ((Below.refl w5.heap.size w5).alloc (Nat.le_refl _) (.cells #[.slice (some ⟨g, 0, none⟩) n n] 48)) hown' hgrow (hat.imp id (fun h => h.trans (by simp)))
      have hb6 : Below w.heap.size wr w6 := (HBS2.out.mono HBS.out).trans (((Below.refl w.heap.size w5).alloc (by have := HBS.out; have := HBS2.out.size; omega) _).grown hgrow (HC5.out _) (fun k hk => (World.ownsRow.lt HT2.out k hk).1))
      have HTB := hid hTB
      have HB6 := hid (HB.out.trans hb6)
      obtain ⟨A6, c6, hv6⟩ := hTB.slice
      subst hv6
      clear hTB hb6 hown' hgrow hat
      go_wp2_with fail
      go_roundw
      case rel => exact ⟨i + 1, _, _, by go_num, by omega, HTB, HB6⟩
      case measure => simp [RowKit.intOf]; omega
    · have hltz : ¬ (i : Int) < (n : Int) := by omega
      obtain rfl : i = n := by omega
      go_wp2
      go_ret
      exact ⟨⟨_, rfl, rb, rc, HT.out⟩, HB.out⟩
end Go.Proofs.YtocmbifljkcmeaaDoor

