/-
  The times of a class: allStarts and Times of coursefile. Conditions: the class lies in memory; there are at most 4096 times.
  What reading a field and an entry leave behind; a room in a block of its own. Conditions: as stated.
  What reading a field and an entry leave behind; a class in a block of its own. Conditions: as stated.
  Reading a list of times: readTimes of the program. Conditions: the variables hold what their text lays; the text is below 2^32 bytes.
  The times of a class: Times of coursefile. Conditions: the class lies in memory; there are at most 4096 times.
  Decimals of numbers below 10000, by the specification and by the library. Conditions: the library's table holds what its text lays.
-/
import Derived.Test.YtigdcgklpapfbaaGreatDoorVR18
import Derived.Lib.AppendIntMem
set_option linter.unusedVariables false
namespace Go.Proofs.YtigdcgklpapfbaaGreatDoor.S10
open Go Go.Proofs Go.RowKit Go.Lib Go.Proofs.YtigdcgklpapfbaaGreatDoor

def dayStarts (y : Nat) (k : Nat) : List StartD := (List.range k).map fun (t : Nat) => ((y : Int), (t : Int))
def allN (d k : Nat) : List StartD := (List.range d).flatMap fun y => dayStarts y k
theorem dayStarts_len (y k : Nat) : (dayStarts y k).length = k := by simp [dayStarts]
theorem dayStarts_succ (y k : Nat) : dayStarts y (k + 1) = dayStarts y k ++ [((y : Int), (k : Int))] := by simp [dayStarts, List.range_succ]
theorem allN_succ (d k : Nat) : allN (d + 1) k = allN d k ++ dayStarts d k := by simp [allN, List.range_succ]
theorem allN_len (d k : Nat) : (allN d k).length = d * k := by
  induction d with
  | zero => simp [allN]
  | succ d ih => rw [allN_succ, List.length_append, ih, dayStarts_len, Nat.succ_mul]
/-- All starts of a class of so many slots. -/
def allS (d s len : Int) : List StartD := allN d.toNat (s - len + 1).toNat
/-- The starts that count. -/
def startsOf (d s : Int) (c : ClassD) : List StartD := if c.starts = [] then allS d s c.len else c.starts
def timesOf (k len : Int) (st : List StartD) : List TimeD := st.map fun t => (k, t.1, t.2, len)
/-- What Times returns, if they are not too many. -/
def timesC (d s b m : Int) (c : ClassD) : List TimeD := if gridB d s b m = true ∧ 1 ≤ c.len ∧ c.len ≤ s then c.pats.flatMap fun k => timesOf k c.len (startsOf d s c) else []

theorem start_new (w : World) (y t : Int) : ∀ (j : Nat) (u : Value), (startVals [(y, t)])[j]? = some u → (w.alloc (.cells #[.int .i64 y, .int .i64 t] 74)).cell? ((⟨w.heap.size, 0, none⟩ : Addr).add j) = some u := by
  intro j u hj
  rw [Addr.add_lit, Lib.cell_of_heap (heap_alloc_new w _)]
  match j, hj with
  | 0, hj => exact hj
  | 1, hj => exact hj
  | j + 2, hj => simp [startVals, startVs] at hj
theorem start_one1 (y t : Int) : ∀ u ∈ startVals [(y, t)], u.oneCell' = true := startVals_one _
set_option maxHeartbeats 8000000 in
set_option maxRecDepth 100000 in
theorem allStarts_any (len d s b m : Int) (hd : 1 ≤ d ∧ d ≤ 7) (hs : 1 ≤ s ∧ s ≤ 24) (hl : 1 ≤ len ∧ len ≤ s) (w : World) :
    Calls Tryz.prog 42 #[.int .i64 len, .agg #[.int .i64 d, .int .i64 s, .int .i64 b, .int .i64 m]] w fun e w' => (∃ v, e = .returned v ∧ StartRow w' w.heap.size v (allS d s len)) ∧ Below w.heap.size w w' := by
  obtain ⟨i9, hi9, hz9, hsi9, hby9⟩ := info_parts infoStart
  unfold allS
  obtain ⟨D, hD⟩ : ∃ D : Nat, d.toNat = D := ⟨_, rfl⟩
  obtain ⟨K, hK⟩ : ∃ K : Nat, (s - len + 1).toNat = K := ⟨_, rfl⟩
  rw [hD, hK]
  have hDz : d = (D : Int) := by omega
  have hD7 : D ≤ 7 := by omega
  have hK24 : K ≤ 24 := by omega
  have q1 : IntKind.i64.wrap (s - len) = s - len := IntWalk.i64_in _ (by omega)
  have q2 : IntKind.i64.wrap (s - len + 1) = (K : Int) := by rw [IntWalk.i64_in _ (by omega)]; omega
  subst hDz
  have hG := Box4.new w (D : Int) s b m 24
  have hb1 := (Below.refl w.heap.size w).alloc (Nat.le_refl _) (.cells #[.int .i64 (D : Int), .int .i64 s, .int .i64 b, .int .i64 m] 24)
  obtain ⟨g0, g1, g2, g3, gl⟩ := hG
  have HG : Hid (Box4 (w.alloc (.cells #[.int .i64 (D : Int), .int .i64 s, .int .i64 b, .int .i64 m] 24)) w.heap.size (D : Int) s b m) := hid ⟨g0, g1, g2, g3, gl⟩
  have HB := hid hb1
  have HD7 := hid hD7
  have HK24 := hid hK24
  clear hD hK hb1 hd hs hl
  go_enter Tryz.func42, Tryz.ntmps42
  go_wp2
  generalize w.alloc (.cells #[.int .i64 (D : Int), .int .i64 s, .int .i64 b, .int .i64 m] 24) = w1 at HG HB g0 g1 g2 g3 gl ⊢
  clear g0 g1 g2 g3 gl
  go_loopw [5, 6, 7, 10, 18] (fun v _ _ iv _ wr => ∃ (i n : Nat) (A : Option Addr) (c : Nat), v = .slice A n c ∧ iv = .int .i64 (i : Int) ∧ i ≤ D ∧ Hid (n = i * K) ∧ Hid (wr.ownsRow w1.heap.size 74 2 (.slice A n c) n (startVals (allN i K))) ∧ Hid (Box4 wr w.heap.size (D : Int) s b m) ∧ Hid (Below w.heap.size w wr) ∧ Hid (w1.heap.size ≤ wr.heap.size)) (fun _ _ _ iv _ _ => D - (RowKit.intOf iv).toNat)
  case atStart => exact ⟨0, 0, none, 0, rfl, rfl, Nat.zero_le _, hid (by simp), hid (by rw [show allN 0 K = [] by simp [allN]]; exact World.ownsRow_nil _ _ _ _), hid HG.out, hid HB.out, hid (Nat.le_refl _)⟩
  case round =>
    obtain ⟨i, n, A, c, rfl, rfl, hi, hn, hrow, hG, hBw, hSz⟩ := hrel
    by_cases hlt : i < D
    · have hltz : (i : Int) < (D : Int) := by omega
      obtain ⟨g0, g1, g2, g3, gl⟩ := hG.out
      go_wp2
      clear g0 g1 g2 g3 gl
      go_loopw [5, 7, 18] (fun v _ jv wr => ∃ (j n : Nat) (A : Option Addr) (c : Nat), v = .slice A n c ∧ jv = .int .i64 (j : Int) ∧ j ≤ K ∧ Hid (n = i * K + j) ∧ Hid (wr.ownsRow w1.heap.size 74 2 (.slice A n c) n (startVals (allN i K ++ dayStarts i j))) ∧ Hid (Box4 wr w.heap.size (D : Int) s b m) ∧ Hid (Below w.heap.size w wr) ∧ Hid (w1.heap.size ≤ wr.heap.size)) (fun _ _ jv _ => K - (RowKit.intOf jv).toNat)
      case atStart => exact ⟨0, n, A, c, rfl, rfl, Nat.zero_le _, hid (by have := hn.out; omega), hid (by rw [show dayStarts i 0 = [] by simp [dayStarts], List.append_nil]; exact hrow.out), hG, hBw, hSz⟩
      case round =>
        obtain ⟨j, n2, A2, c2, rfl, rfl, hj, hn2, hrow2, hG2, hB2, hSz2⟩ := hrel
        by_cases hltj : j < K
        · have hltjz : (j : Int) < (K : Int) := by omega
          have hn2b : n2 ≤ 200 := by
            have := Nat.mul_le_mul (show i ≤ 7 by omega) hK24
            have := hn2.out
            omega
          have HMX : Hid (n2 + 1 ≤ maxLen) := hid (by unfold maxLen; omega)
          have HBY : Hid ((n2 + 1) * 16 ≤ 140737488355328) := hid (by omega)
          have HSZ : Hid (∀ o : Obj, w1.heap.size ≤ (wr.alloc o).heap.size) := hid (fun o => by have := hSz2.out; simp; omega)
          go_wp2_with (at_builtin; refine wpList_append_own _ rfl _ _ 31 rfl w1.heap.size 74 i9 (.agg #[.int .i64 0, .int .i64 0]) 2 16 Tryz.underlying31 hi9 hz9 hsi9 hby9 rfl (by decide) _ n2 (startVals (allN i K ++ dayStarts i j)) rfl (World.ownsRow.alloc hrow2.out _) ⟨wr.heap.size, 0, none⟩ 1 1 (startVals [((i : Int), (j : Int))]) rfl rfl (start_new _ _ _) (start_one1 _ _) HMX.out HBY.out (HSZ.out _) ?_)
          intro v' w4 hown' hgrow _
          have hg' := grownBy_of_alloc hgrow
          obtain ⟨g', cap', rfl⟩ := ownsRow_succ (k := n2) hown'
          have HOwn := hid hown'
          have hw1 : w.heap.size + 1 ≤ w1.heap.size := HG.out.lt
          have hb24 : Below w.heap.size wr w4 := (Below.refl _ wr).grown hg' hB2.out.size (fun k hk => by have := (World.ownsRow.lt hrow2.out k hk).1; omega)
          have HG4 : Hid (Box4 w4 w.heap.size (D : Int) s b m) := hid (by
            have hx := hG2.out
            have kc : ∀ o : Nat, w4.cell? ⟨w.heap.size, o, none⟩ = wr.cell? ⟨w.heap.size, o, none⟩ := fun o => World.cell?_of_block (w := wr) (hg'.block _ hx.lt (fun e => by have := (World.ownsRow.lt hrow2.out _ e.symm).1; have e2 : w1.heap.size ≤ w.heap.size := this; omega))
            exact ⟨(kc 0).trans hx.c0, (kc 1).trans hx.c1, (kc 2).trans hx.c2, (kc 3).trans hx.c3, Nat.lt_of_lt_of_le hx.lt hg'.size⟩)
          have HB4 := hid (hB2.out.trans hb24)
          have HS4 := hid (Nat.le_trans hSz2.out hg'.size)
          clear hg' hb24 hgrow hown' hw1
          go_wp2_with fail
          go_roundw
          case rel =>
            refine ⟨j + 1, n2 + 1, _, _, rfl, by go_num, by omega, hid (by have := hn2.out; omega), hid ?_, HG4, HB4, HS4⟩
            rw [dayStarts_succ, ← List.append_assoc, startVals_app]
            exact HOwn.out
          case measure => simp [RowKit.intOf]; omega
        · have hltjz : ¬ (j : Int) < (K : Int) := by omega
          have hjK : j = K := by omega
          have HR3 : Hid (wr.ownsRow w1.heap.size 74 2 (.slice A2 n2 c2) n2 (startVals (allN (i + 1) K))) := hid (by rw [allN_succ]; have := hrow2.out; rw [hjK] at this; exact this)
          have HN3 : Hid (n2 = (i + 1) * K) := hid (by have := hn2.out; rw [hjK] at this; rw [Nat.succ_mul]; exact this)
          clear hjK
          go_wp2
          go_roundw
          case rel => exact ⟨i + 1, n2, A2, c2, rfl, by go_num, by omega, HN3, HR3, hG2, hB2, hSz2⟩
          case measure => simp [RowKit.intOf]; omega
    · have hltz : ¬ (i : Int) < (D : Int) := by omega
      have hiD : i = D := by omega
      have HR3 : Hid (StartRow wr w.heap.size (.slice A n c) (allN D K)) := hid (by
        unfold StartRow
        rw [allN_len]
        have h1 := hrow.out
        have h2 := hn.out
        rw [hiD] at h1 h2
        rw [← h2]
        exact rowLow h1 HB.out.size)
      clear hiD
      go_wp2
      go_ret
      exact ⟨⟨_, rfl, HR3.out⟩, hBw.out⟩
end Go.Proofs.YtigdcgklpapfbaaGreatDoor.S10

set_option linter.unusedVariables false
namespace Go.Proofs.YtigdcgklpapfbaaGreatDoor
open Go Go.Proofs Go.RowKit Go.Lib

/-- What a call that reads an entry leaves behind. -/
def EntryOut (o : RoomD × Int × Int) (w : World) (e : Ending) (w' : World) : Prop :=
  (∃ q, e = .returned (.tuple #[roomV o.1 q, .int .i64 o.2.1, .int .i64 o.2.2]) ∧ RoomIn w' (fun k => w.heap.size ≤ k ∧ k < w'.heap.size) o.1 q) ∧ Below w.heap.size w w'
theorem results_ctt {fn : Func} {p u v : Tmp} {A : TypeId} (h : fn.results = #[.cell p A, .tmp u, .tmp v]) (tmps : Array Value) (P : Program) (w : World) (a : Addr) (va vc vd : Value)
    (ha : tmps.getD p undef = .pointer (some a)) (hc : tmps.getD u undef = vc) (hd : tmps.getD v undef = vd)
    (hla : (loadVar A a).run P w = .ok va w) : (results fn tmps).run P w = .ok (.tuple #[va, vc, vd]) w := by
  rw [Array.getD_eq_getD_getElem?] at ha hc hd
  simp only [results, h]
  simp [Result.andThen, ha, hc, hd, hla, asAddr]
theorem grown_of_below {w w' : World} (h : Below w.heap.size w w') : w.grownBy w' none := ⟨h.os, h.tape, h.output, h.size, fun k hk _ => h.block k hk⟩
theorem put_grown {W w2 : World} (hb : Below W.heap.size W w2) (R j : Nat) (v : Value) : W.grownBy (w2.setCell ⟨R, j, none⟩ v) (some R) :=
  ((grown_of_below hb).but (some R)).trans ⟨by simp [World.setCell], by simp [World.setCell], by simp [World.setCell], by simp [World.setCell], fun k _ hk => Below.heap_setCell w2 ⟨R, j, none⟩ v k (fun e => hk (by rw [show k = R from e]))⟩
end Go.Proofs.YtigdcgklpapfbaaGreatDoor

set_option linter.unusedVariables false
namespace Go.Proofs.YtigdcgklpapfbaaGreatDoor.S10
open Go Go.Proofs Go.RowKit Go.Lib Go.Proofs.YtigdcgklpapfbaaGreatDoor

/-- The nine parts of a class. -/
def clsArr (r : ClassD) (q : ClassA) : Array Value := #[.string (ba r.code), .string (ba r.course), .string (ba r.part), .int .i64 r.len, .slice q.aP r.pats.length q.cP, .int .i64 r.seats, .slice q.aF r.feats.length q.cF, .slice q.aS r.staff.length q.cS, .slice q.aT r.starts.length q.cT]
/-- What a call that reads field i of the class in block R leaves behind. -/
def FieldOut (d s b m n : Int) (i : Nat) (x : Str) (r : ClassD) (R : Nat) (w : World) (e : Ending) (w' : World) : Prop :=
  e = .returned (.int .i64 (setF d s b m n i x r).2) ∧ (∃ q : ClassA, BoxC w' R (clsArr (setF d s b m n i x r).1 q) ∧ ClassIn w' (fun k => R < k ∧ k < w'.heap.size) (setF d s b m n i x r).1 q) ∧ w.grownBy w' (some R)
/-- What a call that reads an entry leaves behind. -/
def EntryOut (o : ClassD × Int × Int) (w : World) (e : Ending) (w' : World) : Prop :=
  (∃ q, e = .returned (.tuple #[clsV o.1 q, .int .i64 o.2.1, .int .i64 o.2.2]) ∧ ClassIn w' (fun k => w.heap.size ≤ k ∧ k < w'.heap.size) o.1 q) ∧ Below w.heap.size w w'
theorem load9 {w : World} {k : Nat} {v0 v1 v2 v3 v4 v5 v6 v7 v8 : Value} (h : w.cell? ⟨k, 0, none⟩ = some v0 ∧ w.cell? ⟨k, 1, none⟩ = some v1 ∧ w.cell? ⟨k, 2, none⟩ = some v2 ∧ w.cell? ⟨k, 3, none⟩ = some v3 ∧ w.cell? ⟨k, 4, none⟩ = some v4 ∧ w.cell? ⟨k, 5, none⟩ = some v5 ∧ w.cell? ⟨k, 6, none⟩ = some v6 ∧ w.cell? ⟨k, 7, none⟩ = some v7 ∧ w.cell? ⟨k, 8, none⟩ = some v8) : (loadVar 33 ⟨k, 0, none⟩).run Tryz.prog w = .ok (.agg #[v0, v1, v2, v3, v4, v5, v6, v7, v8]) w := by
  obtain ⟨h0, h1, h2, h3, h4, h5, h6, h7, h8⟩ := h
  simp [loadVar, go_sem, h0, h1, h2, h3, h4, h5, h6, h7, h8]
/-- All nine parts stored. -/
def put9 (W : World) (B : Nat) (v0 v1 v2 v3 v4 v5 v6 v7 v8 : Value) : World :=
  ((((((((W.setCell ⟨B, 0, none⟩ v0).setCell ⟨B, 1, none⟩ v1).setCell ⟨B, 2, none⟩ v2).setCell ⟨B, 3, none⟩ v3).setCell ⟨B, 4, none⟩ v4).setCell ⟨B, 5, none⟩ v5).setCell ⟨B, 6, none⟩ v6).setCell ⟨B, 7, none⟩ v7).setCell ⟨B, 8, none⟩ v8
theorem BoxC.put0 {w : World} {B : Nat} {u0 u1 u2 u3 u4 u5 u6 u7 u8 : Value} (h : BoxC w B #[u0, u1, u2, u3, u4, u5, u6, u7, u8]) (v : Value) : BoxC (w.setCell ⟨B, 0, none⟩ v) B #[v, u1, u2, u3, u4, u5, u6, u7, u8] := ⟨by rw [heap_setCell_same w B 0 _ _ v h.h]; rfl⟩
theorem BoxC.put1 {w : World} {B : Nat} {u0 u1 u2 u3 u4 u5 u6 u7 u8 : Value} (h : BoxC w B #[u0, u1, u2, u3, u4, u5, u6, u7, u8]) (v : Value) : BoxC (w.setCell ⟨B, 1, none⟩ v) B #[u0, v, u2, u3, u4, u5, u6, u7, u8] := ⟨by rw [heap_setCell_same w B 1 _ _ v h.h]; rfl⟩
theorem BoxC.put2 {w : World} {B : Nat} {u0 u1 u2 u3 u4 u5 u6 u7 u8 : Value} (h : BoxC w B #[u0, u1, u2, u3, u4, u5, u6, u7, u8]) (v : Value) : BoxC (w.setCell ⟨B, 2, none⟩ v) B #[u0, u1, v, u3, u4, u5, u6, u7, u8] := ⟨by rw [heap_setCell_same w B 2 _ _ v h.h]; rfl⟩
theorem BoxC.put3 {w : World} {B : Nat} {u0 u1 u2 u3 u4 u5 u6 u7 u8 : Value} (h : BoxC w B #[u0, u1, u2, u3, u4, u5, u6, u7, u8]) (v : Value) : BoxC (w.setCell ⟨B, 3, none⟩ v) B #[u0, u1, u2, v, u4, u5, u6, u7, u8] := ⟨by rw [heap_setCell_same w B 3 _ _ v h.h]; rfl⟩
theorem BoxC.put4 {w : World} {B : Nat} {u0 u1 u2 u3 u4 u5 u6 u7 u8 : Value} (h : BoxC w B #[u0, u1, u2, u3, u4, u5, u6, u7, u8]) (v : Value) : BoxC (w.setCell ⟨B, 4, none⟩ v) B #[u0, u1, u2, u3, v, u5, u6, u7, u8] := ⟨by rw [heap_setCell_same w B 4 _ _ v h.h]; rfl⟩
theorem BoxC.put5 {w : World} {B : Nat} {u0 u1 u2 u3 u4 u5 u6 u7 u8 : Value} (h : BoxC w B #[u0, u1, u2, u3, u4, u5, u6, u7, u8]) (v : Value) : BoxC (w.setCell ⟨B, 5, none⟩ v) B #[u0, u1, u2, u3, u4, v, u6, u7, u8] := ⟨by rw [heap_setCell_same w B 5 _ _ v h.h]; rfl⟩
theorem BoxC.put6 {w : World} {B : Nat} {u0 u1 u2 u3 u4 u5 u6 u7 u8 : Value} (h : BoxC w B #[u0, u1, u2, u3, u4, u5, u6, u7, u8]) (v : Value) : BoxC (w.setCell ⟨B, 6, none⟩ v) B #[u0, u1, u2, u3, u4, u5, v, u7, u8] := ⟨by rw [heap_setCell_same w B 6 _ _ v h.h]; rfl⟩
theorem BoxC.put7 {w : World} {B : Nat} {u0 u1 u2 u3 u4 u5 u6 u7 u8 : Value} (h : BoxC w B #[u0, u1, u2, u3, u4, u5, u6, u7, u8]) (v : Value) : BoxC (w.setCell ⟨B, 7, none⟩ v) B #[u0, u1, u2, u3, u4, u5, u6, v, u8] := ⟨by rw [heap_setCell_same w B 7 _ _ v h.h]; rfl⟩
theorem BoxC.put8 {w : World} {B : Nat} {u0 u1 u2 u3 u4 u5 u6 u7 u8 : Value} (h : BoxC w B #[u0, u1, u2, u3, u4, u5, u6, u7, u8]) (v : Value) : BoxC (w.setCell ⟨B, 8, none⟩ v) B #[u0, u1, u2, u3, u4, u5, u6, u7, v] := ⟨by rw [heap_setCell_same w B 8 _ _ v h.h]; rfl⟩
theorem BoxC.set {w : World} {B : Nat} {u0 u1 u2 u3 u4 u5 u6 u7 u8 : Value} (h : BoxC w B #[u0, u1, u2, u3, u4, u5, u6, u7, u8]) (v0 v1 v2 v3 v4 v5 v6 v7 v8 : Value) : BoxC (put9 w B v0 v1 v2 v3 v4 v5 v6 v7 v8) B #[v0, v1, v2, v3, v4, v5, v6, v7, v8] :=
  BoxC.put8 (BoxC.put7 (BoxC.put6 (BoxC.put5 (BoxC.put4 (BoxC.put3 (BoxC.put2 (BoxC.put1 (BoxC.put0 h v0) v1) v2) v3) v4) v5) v6) v7) v8
theorem put9_grown (w : World) (B : Nat) (v0 v1 v2 v3 v4 v5 v6 v7 v8 : Value) : w.grownBy (put9 w B v0 v1 v2 v3 v4 v5 v6 v7 v8) (some B) := by
  have g : ∀ (w : World) (o : Nat) (v : Value), w.grownBy (w.setCell ⟨B, o, none⟩ v) (some B) := fun w o v => ⟨by simp [World.setCell], by simp [World.setCell], by simp [World.setCell], by simp [World.setCell], fun k _ hk => Below.heap_setCell w ⟨B, o, none⟩ v k (fun e => hk (by rw [show k = B from e]))⟩
  exact ((((((((g w 0 v0).andThen (g _ 1 v1) (fun j hj => .inr hj)).andThen (g _ 2 v2) (fun j hj => .inr hj)).andThen (g _ 3 v3) (fun j hj => .inr hj)).andThen (g _ 4 v4) (fun j hj => .inr hj)).andThen (g _ 5 v5) (fun j hj => .inr hj)).andThen (g _ 6 v6) (fun j hj => .inr hj)).andThen (g _ 7 v7) (fun j hj => .inr hj)).andThen (g _ 8 v8) (fun j hj => .inr hj)
/-- All results stored. -/
theorem entry_end {w W : World} {a : Act} {r : ClassD} {q : ClassA} {c e : Int} {o : ClassD × Int × Int} (hp : a.tmps.getD 6 undef = .pointer (some ⟨w.heap.size, 0, none⟩)) (hc : a.tmps.getD 7 undef = .int .i64 c) (he : a.tmps.getD 8 undef = .int .i64 e) (hd : a.defers = [])
    (hx : BoxC W w.heap.size (clsArr r q)) (hr : ClassIn W (fun k => w.heap.size < k ∧ k < W.heap.size) r q) (hb : Below w.heap.size w W) (ho : o = (r, c, e)) :
    bodyPost Tryz.prog Tryz.f90 (EntryOut o w) Exit.ret a W := by
  subst ho
  refine bodyPost_ret (v := .tuple #[clsV r q, .int .i64 c, .int .i64 e]) (results_ctt rfl _ _ _ ⟨w.heap.size, 0, none⟩ _ _ _ hp hc he ?_) hd ⟨⟨q, rfl, hr.mono (fun k hk => ⟨Nat.le_of_lt hk.1, hk.2⟩)⟩, hb⟩
  unfold clsV
  exact load9 hx.cells
theorem nine_put {w W : World} {r : ClassD} {q : ClassA} (hx : BoxC W w.heap.size (clsArr r q)) (hr : ClassIn W (fun k => w.heap.size < k ∧ k < W.heap.size) r q) (hb : Below w.heap.size w W) {W5 : World}
    (h5 : W5 = put9 W w.heap.size (.string (ba r.code)) (.string (ba r.course)) (.string (ba r.part)) (.int .i64 r.len) (.slice q.aP r.pats.length q.cP) (.int .i64 r.seats) (.slice q.aF r.feats.length q.cF) (.slice q.aS r.staff.length q.cS) (.slice q.aT r.starts.length q.cT)) :
    BoxC W5 w.heap.size (clsArr r q) ∧ ClassIn W5 (fun k => w.heap.size < k ∧ k < W5.heap.size) r q ∧ Below w.heap.size w W5 := by
  have hx5 := BoxC.set hx (.string (ba r.code)) (.string (ba r.course)) (.string (ba r.part)) (.int .i64 r.len) (.slice q.aP r.pats.length q.cP) (.int .i64 r.seats) (.slice q.aF r.feats.length q.cF) (.slice q.aS r.staff.length q.cS) (.slice q.aT r.starts.length q.cT)
  have hg := put9_grown W w.heap.size (.string (ba r.code)) (.string (ba r.course)) (.string (ba r.part)) (.int .i64 r.len) (.slice q.aP r.pats.length q.cP) (.int .i64 r.seats) (.slice q.aF r.feats.length q.cF) (.slice q.aS r.staff.length q.cS) (.slice q.aT r.starts.length q.cT)
  rw [← h5] at hx5 hg
  have hs := hg.size
  have hl := hx.lt
  exact ⟨hx5, (hr.kept (fun k hk => hg.block k hk.2 (fun e => by injection e; omega))).mono (fun k hk => ⟨hk.1, by omega⟩), hb.grown hg (by omega) (fun k e => by injection e; omega)⟩
theorem ClassIn.past {W w2 : World} {R j : Nat} {v : Value} {r : ClassD} {q : ClassA} (h : ClassIn W (fun k => R < k ∧ k < W.heap.size) r q) (hb : Below W.heap.size W w2) : ClassIn (w2.setCell ⟨R, j, none⟩ v) (fun k => R < k ∧ k < (w2.setCell ⟨R, j, none⟩ v).heap.size) r q := by
  have hg := put_grown hb R j v
  have hs := hg.size
  exact (h.kept (fun k hk => hg.block k hk.2 (fun e => by injection e; omega))).mono (fun k hk => ⟨hk.1, by omega⟩)
end Go.Proofs.YtigdcgklpapfbaaGreatDoor.S10

set_option linter.unusedVariables false
namespace Go.Proofs.YtigdcgklpapfbaaGreatDoor
open Go Go.Proofs Go.RowKit Go.Lib
attribute [local go_sem] Oper.semAt_some

theorem TimeRow.mono {w : World} {B B' : Nat} {v : Value} {l : List TimeD} (h : TimeRow w B v l) (hB : B' ≤ B) : TimeRow w B' v l := by
  obtain ⟨h1, h2⟩ := h
  refine ⟨h1, ?_⟩
  rcases h2 with h2 | ⟨g, cap, cur, hv, hg, r⟩
  · exact .inl h2
  · exact .inr ⟨g, cap, cur, hv, Nat.le_trans hB hg, r⟩
theorem four_new (w : World) (a b c d : Int) (T : TypeId) : ∀ (j : Nat) (u : Value), (timeVs (a, b, c, d))[j]? = some u → (w.alloc (.cells #[.int .i64 a, .int .i64 b, .int .i64 c, .int .i64 d] T)).cell? ((⟨w.heap.size, 0, none⟩ : Addr).add j) = some u := by
  intro j u h
  have k := Box4.new w a b c d T
  rw [Addr.add_lit]
  match j, h with
  | 0, h => exact k.c0.trans h
  | 1, h => exact k.c1.trans h
  | 2, h => exact k.c2.trans h
  | 3, h => exact k.c3.trans h
  | j + 4, h => simp [timeVs] at h
theorem times_one (t : TimeD) : ∀ u ∈ timeVs t, u.oneCell' = true := fun u hu => timeVals_one [t] u (by simpa [timeVals] using hu)
end Go.Proofs.YtigdcgklpapfbaaGreatDoor

set_option linter.unusedVariables false
namespace Go.Proofs.YtigdcgklpapfbaaGreatDoor.S10
open Go Go.Proofs Go.RowKit Go.Lib Go.Proofs.YtigdcgklpapfbaaGreatDoor

/-- What lies while Times runs: the class, the grid. -/
structure KT (w0 : World) (a : Array Value) (d s b m : Int) (W : World) : Prop where
  x : BoxC W w0.heap.size a
  g : Box4 W (w0.heap.size + 1) d s b m
  b : Below w0.heap.size w0 W
theorem KT.next {w0 W W' : World} {a : Array Value} {d s b m : Int} (h : KT w0 a d s b m W) (k : Below W.heap.size W W') : KT w0 a d s b m W' := ⟨h.x.next k, h.g.next k h.g.lt, h.b.trans (k.mono h.b.size)⟩
theorem KT.first (w : World) (a : Array Value) (d s b m : Int) : KT w a d s b m ((w.alloc (.cells a 33)).alloc (.cells #[.int .i64 d, .int .i64 s, .int .i64 b, .int .i64 m] 24)) := by
  have hb1 := (Below.refl w.heap.size w).alloc (Nat.le_refl _) (.cells a 33)
  have hL := BoxC.new w a
  have hs : (w.alloc (.cells a 33)).heap.size = w.heap.size + 1 := by simp
  generalize w.alloc (.cells a 33) = w1 at hb1 hL hs ⊢
  have hb2 := (Below.refl w1.heap.size w1).alloc (Nat.le_refl _) (.cells #[.int .i64 d, .int .i64 s, .int .i64 b, .int .i64 m] 24)
  have hG := Box4.new w1 d s b m 24
  rw [hs] at hG
  exact ⟨hL.next hb2, hG, hb1.trans (hb2.mono (by omega))⟩
/-- The call's own row has grown. -/
theorem KT.row {w0 W W' : World} {a : Array Value} {d s b m : Int} {row : Option Nat} {C : Nat} (h : KT w0 a d s b m W) (hC : w0.heap.size + 2 ≤ C) (hg : W.grownBy W' row) (hr : ∀ k, row = some k → C ≤ k) : KT w0 a d s b m W' := by
  have hl := h.g.lt
  have hne : ∀ k, k < C → some k ≠ row := fun k hk e => by have := hr k e.symm; omega
  have kc : ∀ o : Nat, W'.cell? ⟨w0.heap.size + 1, o, none⟩ = W.cell? ⟨w0.heap.size + 1, o, none⟩ := fun o => World.cell?_of_block (w := W) (hg.block (w0.heap.size + 1) hl (hne (w0.heap.size + 1) (by omega)))
  have hx := h.g
  exact ⟨h.x.kept (hg.block _ h.x.lt (hne _ (by omega))), ⟨(kc 0).trans hx.c0, (kc 1).trans hx.c1, (kc 2).trans hx.c2, (kc 3).trans hx.c3, Nat.lt_of_lt_of_le hl hg.size⟩, h.b.grown hg h.b.size (fun k e => by have := hr k e; omega)⟩
theorem flat_succ {α β : Type} (l : List α) (F : α → List β) (i : Nat) (h : i < l.length) : (l.take (i + 1)).flatMap F = (l.take i).flatMap F ++ F l[i] := by
  rw [List.take_succ_eq_append_getElem h, List.flatMap_append]
  simp
theorem sum_const (M : Nat) : ∀ l : List Int, (l.map fun _ => M).sum = l.length * M
  | [] => by simp
  | a :: l => by rw [List.map_cons, List.sum_cons, sum_const M l, List.length_cons, Nat.succ_mul, Nat.add_comm]
theorem timesOf_succ (k len : Int) (st : List StartD) (j : Nat) (h : j < st.length) : timesOf k len (st.take (j + 1)) = timesOf k len (st.take j) ++ [(k, (st[j]).1, (st[j]).2, len)] := by
  unfold timesOf
  rw [List.take_succ_eq_append_getElem h, List.map_append]
  rfl
set_option maxHeartbeats 16000000 in
set_option maxRecDepth 100000 in
theorem times_any (d s b m : Int) (x : ClassD) (q : ClassA) (w : World) (hin : ClassIn w (fun k => k < w.heap.size) x q) (htot : x.pats.length * (startsOf d s x).length ≤ 4096) :
    Calls Tryz.prog 11 #[clsV x q, .agg #[.int .i64 d, .int .i64 s, .int .i64 b, .int .i64 m]] w fun e w' => (∃ v, e = .returned v ∧ TimeRow w' w.heap.size v (timesC d s b m x)) ∧ Below w.heap.size w w' := by
  obtain ⟨aP, cP, aF, cF, aS, cS, aT, cT⟩ := q
  obtain ⟨i9, hi9, hz9, hsi9, hby9⟩ := info_parts infoTime
  unfold clsV timesC
  have hk := KT.first w (clsArr x ⟨aP, cP, aF, cF, aS, cS, aT, cT⟩) d s b m
  have hz1 : ((w.alloc (.cells (clsArr x ⟨aP, cP, aF, cF, aS, cS, aT, cT⟩) 33)).alloc (.cells #[.int .i64 d, .int .i64 s, .int .i64 b, .int .i64 m] 24)).heap.size = w.heap.size + 2 := by simp
  unfold clsArr at hk hz1
  dsimp only at hk hz1 ⊢
  have cG := fun w => gvalid_any d s b m w
  unfold Says at cG
  have HK := hid hk
  have HZ1 := hid hz1
  have HP : Hid (NumsIn w (fun k => k < w.heap.size) aP x.pats ∧ x.pats.length ≤ cP ∧ cP ≤ 9223372036854775807) := hid ⟨hin.p, hin.p1, hin.p2⟩
  have HT : Hid (StartsIn w (fun k => k < w.heap.size) aT x.starts ∧ x.starts.length ≤ cT ∧ cT ≤ 9223372036854775807) := hid ⟨hin.t, hin.t1, hin.t2⟩
  clear hk hz1 hin
  obtain ⟨ST, hST⟩ : ∃ ST, startsOf d s x = ST := ⟨_, rfl⟩
  rw [hST] at htot ⊢
  have HST := hid hST
  clear hST
  cases hgr : gridB d s b m with
  | false =>
    rw [hgr] at cG
    have CG := hid cG
    clear cG hgr htot
    rw [if_neg (by simp)]
    go_enter Tryz.func11, Tryz.ntmps11
    go_wp2
    go_step3
    go_upto_region 1 with fail
    generalize World.alloc _ _ = w1 at HK HZ1 ⊢
    obtain ⟨g0, g1, g2, g3, gl⟩ := HK.out.g
    obtain ⟨x0, x1, x2, x3, x4, x5, x6, x7, x8⟩ := BoxC.cells HK.out.x
    go_wp2_with fail
    refine (CG.out _).mono ?_
    rintro e w2 ⟨rfl, hb⟩
    have HB := hid (HK.out.next hb).b
    clear hb x0 x1 x2 x3 x4 x5 x6 x7 x8 g0 g1 g2 g3 gl
    go_wp2
    try rw [Exit.noGoto_ret]
    go_ret
    exact ⟨⟨_, rfl, World.ownsRow_nil _ _ _ _⟩, HB.out⟩
  | true =>
    rw [hgr] at cG
    have hgp := grid_of hgr
    have CG := hid cG
    clear cG hgr
    by_cases hl : 1 ≤ x.len ∧ x.len ≤ s
    · rw [if_pos ⟨rfl, hl.1, hl.2⟩]
      have cL := fun w => isLength_any x.len d s b m w
      rw [decide_eq_true hl] at cL
      unfold Says at cL
      have CL := hid cL
      have cAS := hid (fun w => allStarts_any x.len d s b m ⟨hgp.1.1, hgp.1.2⟩ ⟨hgp.2.1.1, hgp.2.1.2⟩ hl w)
      clear cL
      obtain ⟨LN, hLN⟩ : ∃ LN, x.len = LN := ⟨_, rfl⟩
      have HLN := hid hLN
      rw [hLN] at CL cAS HK HZ1 ⊢
      obtain ⟨PN, hPN⟩ : ∃ PN, x.pats.length = PN := ⟨_, rfl⟩
      obtain ⟨TN, hTN⟩ : ∃ TN, x.starts.length = TN := ⟨_, rfl⟩
      have HPN := hid hPN
      have HTN := hid hTN
      rw [hPN] at htot HK HZ1 ⊢
      rw [hTN] at HK HZ1 ⊢
      clear hLN hPN hTN hl hgp
      obtain ⟨M, hM⟩ : ∃ M, ST.length = M := ⟨_, rfl⟩
      rw [hM] at htot
      have HM := hid hM
      clear hM
      go_enter Tryz.func11, Tryz.ntmps11
      go_wp2
      go_step3
      go_upto_region 1 with fail
      generalize World.alloc _ _ = w1 at HK HZ1 ⊢
      obtain ⟨g0, g1, g2, g3, gl⟩ := HK.out.g
      obtain ⟨x0, x1, x2, x3, x4, x5, x6, x7, x8⟩ := BoxC.cells HK.out.x
      go_wp2_with fail
      refine (CG.out _).mono ?_
      rintro e w2 ⟨rfl, hb⟩
      have hk2 := HK.out.next hb
      obtain ⟨x0', x1', x2', x3', x4', x5', x6', x7', x8'⟩ := BoxC.cells hk2.x
      obtain ⟨g0', g1', g2', g3', gl'⟩ := hk2.g
      have HK2 := hid hk2
      clear hb hk2 x0 x1 x2 x3 x4 x5 x6 x7 x8 g0 g1 g2 g3 gl
      go_wp2_with fail
      refine (CL.out _).mono ?_
      rintro e w3 ⟨rfl, hb⟩
      have hk3 := HK2.out.next hb
      obtain ⟨x0, x1, x2, x3, x4, x5, x6, x7, x8⟩ := BoxC.cells hk3.x
      obtain ⟨g0, g1, g2, g3, gl⟩ := hk3.g
      have HK3 := hid hk3
      clear hb hk3 x0' x1' x2' x3' x4' x5' x6' x7' x8' g0' g1' g2' g3' gl'
      go_upto_if 25 with fail
      go_cut [5] (fun v wz => ∃ A c, v = .slice A M c ∧ Hid (StartsIn wz (fun k => k < wz.heap.size) A ST) ∧ Hid (M ≤ c ∧ c ≤ 9223372036854775807) ∧ Hid (KT w #[.string (ba x.code), .string (ba x.course), .string (ba x.part), .int .i64 LN, .slice aP PN cP, .int .i64 x.seats, .slice aF x.feats.length cF, .slice aS x.staff.length cS, .slice aT TN cT] d s b m wz))
      case first =>
        by_cases h0 : x.starts = []
        · have hTN0 : ((TN : Int) == 0) = true := by rw [← HTN.out, h0]; rfl
          have hSe : Hid (allS d s LN = ST) := hid (by rw [← HST.out]; unfold startsOf; rw [if_pos h0, HLN.out])
          clear h0
          go_wp2_with fail
          refine (cAS.out _).mono ?_
          rintro e w4 ⟨⟨v, rfl, hrow⟩, hb⟩
          unfold StartRow at hrow
          rw [hSe.out, HM.out] at hrow
          obtain ⟨A, c, rfl, hc1, hc2, hin⟩ := FlatIn.ofRow hrow (by rw [startVals_len, HM.out])
          have HIN2 := hid (FlatIn.mono hin (fun k hk => hk.2))
          have HKE := hid (HK3.out.next hb)
          clear hb hrow hin
          go_wp2_with fail
          go_meet
          exact ⟨A, c, rfl, HIN2, hid ⟨hc1, hc2⟩, HKE⟩
        · have hTN0 : ((TN : Int) == 0) = false := by
            have : TN ≠ 0 := fun e => h0 (List.eq_nil_of_length_eq_zero (by rw [HTN.out]; exact e))
            simpa using this
          have hSe : Hid (x.starts = ST) := hid (by rw [← HST.out]; unfold startsOf; rw [if_neg h0])
          have hTM : TN = M := by rw [← HTN.out, hSe.out, HM.out]
          have HIN2 : Hid (StartsIn w3 (fun k => k < w3.heap.size) aT ST) := hid (by
            rw [← hSe.out]
            exact (HT.out.1.kept (fun b hb => HK3.out.b.block b hb)).mono (fun b hb => Nat.lt_of_lt_of_le hb HK3.out.b.size))
          have HCC : Hid (M ≤ cT ∧ cT ≤ 9223372036854775807) := hid (by rw [← hTM, ← HTN.out]; exact HT.out.2)
          have HTM := hid hTM
          clear h0 hSe hTM
          go_wp2_with fail
          go_meet
          exact ⟨aT, cT, by rw [HTM.out], HIN2, HCC, HK3⟩
      case rest =>
        obtain ⟨A, c, rfl, hSt, hCc, hKc⟩ := hcut
        obtain ⟨x0', x1', x2', x3', x4', x5', x6', x7', x8'⟩ := BoxC.cells hKc.out.x
        clear x0 x1 x2 x3 x4 x5 x6 x7 x8 g0 g1 g2 g3 gl x0' x1' x2' x5' x6' x7' x8'
        have HCS : Hid (w.heap.size + 2 ≤ wc.heap.size) := hid hKc.out.g.lt
        go_wp2
        go_step3
        go_wp2
        clear x3' x4'
        have hPm : PN ≤ 9223372036854775807 := by rw [← HPN.out]; exact Nat.le_trans HP.out.2.1 HP.out.2.2
        have hMm : M ≤ 9223372036854775807 := Nat.le_trans hCc.out.1 hCc.out.2
        go_loopw [6, 8, 10, 33, 39] (fun v _ _ iv _ wr => ∃ (i n : Nat) (B : Option Addr) (e : Nat), v = .slice B n e ∧ iv = .int .i64 (i : Int) ∧ i ≤ PN ∧ Hid (n = i * M) ∧ Hid (wr.ownsRow wc.heap.size 66 4 (.slice B n e) n (timeVals ((x.pats.take i).flatMap fun k => timesOf k LN ST))) ∧ Hid (KT w #[.string (ba x.code), .string (ba x.course), .string (ba x.part), .int .i64 LN, .slice aP PN cP, .int .i64 x.seats, .slice aF x.feats.length cF, .slice aS x.staff.length cS, .slice aT TN cT] d s b m wr) ∧ Hid (Below wc.heap.size wc wr)) (fun _ _ _ iv _ _ => PN - (RowKit.intOf iv).toNat)
        case atStart => exact ⟨0, 0, none, 0, rfl, rfl, Nat.zero_le _, hid (by simp), hid (by simp only [List.take_zero, List.flatMap_nil]; exact World.ownsRow_nil _ _ _ _), hKc, hid (Below.refl _ _)⟩
        case round =>
          obtain ⟨i, n, B, e, rfl, rfl, hi, hn, hrow, hK4, hB4⟩ := hrel
          by_cases hlt : i < PN
          · have hltz : (i : Int) < (PN : Int) := by omega
            have hlt' : i < x.pats.length := by rw [HPN.out]; exact hlt
            obtain ⟨pb, po, rfl, _, hpc⟩ := (HP.out.1.kept (fun b hb => hK4.out.b.block b hb)).num hlt'
            have hfl := flat_succ x.pats (fun k => timesOf k LN ST) i hlt'
            obtain ⟨K, hKe⟩ : ∃ K, x.pats[i] = K := ⟨_, rfl⟩
            rw [hKe] at hpc hfl
            have HFL := hid hfl
            clear hKe hfl hlt'
            go_wp2
            clear hpc
            go_loopw [6, 10, 39] (fun v _ jv wr => ∃ (j n : Nat) (B : Option Addr) (e : Nat), v = .slice B n e ∧ jv = .int .i64 (j : Int) ∧ j ≤ M ∧ Hid (n = i * M + j) ∧ Hid (wr.ownsRow wc.heap.size 66 4 (.slice B n e) n (timeVals ((x.pats.take i).flatMap (fun k => timesOf k LN ST) ++ timesOf K LN (ST.take j)))) ∧ Hid (KT w #[.string (ba x.code), .string (ba x.course), .string (ba x.part), .int .i64 LN, .slice (some ⟨pb, po, none⟩) PN cP, .int .i64 x.seats, .slice aF x.feats.length cF, .slice aS x.staff.length cS, .slice aT TN cT] d s b m wr) ∧ Hid (Below wc.heap.size wc wr)) (fun _ _ jv _ => M - (RowKit.intOf jv).toNat)
            case atStart => exact ⟨0, n, B, e, rfl, rfl, Nat.zero_le _, hid (by have := hn.out; omega), hid (by rw [List.take_zero, show timesOf K LN [] = [] from rfl, List.append_nil]; exact hrow.out), hK4, hB4⟩
            case round =>
              obtain ⟨j, n2, B2, e2, rfl, rfl, hj, hn2, hrow2, hK5, hB5⟩ := hrel
              by_cases hltj : j < M
              · have hltjz : (j : Int) < (M : Int) := by omega
                have hn4 : n2 < 4096 := by
                  have h1 := Nat.mul_le_mul_right M (show i + 1 ≤ PN from hlt)
                  rw [Nat.succ_mul] at h1
                  have := hn2.out
                  omega
                have hn4b : ((n2 : Int) == 4096) = false := by
                  rw [beq_eq_false_iff_ne]
                  omega
                have hltj' : j < ST.length := by rw [HM.out]; exact hltj
                have hSr : StartsIn wr (fun k => k < wc.heap.size) A ST := hSt.out.kept (fun b hb => hB5.out.block b hb)
                obtain ⟨sb, so, rfl, _, s0, s1⟩ := hSr.start hltj'
                have hts := timesOf_succ K LN ST j hltj'
                obtain ⟨⟨y, t⟩, hyt⟩ : ∃ p, ST[j] = p := ⟨_, rfl⟩
                rw [hyt] at s0 s1 hts
                dsimp only at s0 s1 hts
                have HTS := hid hts
                clear hSr hltj' hyt hts
                have hS := BoxS.new wr (.int .i64 y) (.int .i64 t)
                have hb6 := (Below.refl wr.heap.size wr).alloc (Nat.le_refl _) (.cells #[.int .i64 y, .int .i64 t] 74)
                have hK6 := hK5.out.next hb6
                have hB6 := hB5.out.trans (hb6.mono hB5.out.size)
                have HR6 := hid (row_under hrow2.out hb6)
                obtain ⟨q0, q1⟩ := hS.cells
                obtain ⟨_, _, _, x3, _⟩ := BoxC.cells hK6.x
                have HK6 := hid hK6
                have HB6 := hid hB6
                have HM5 : Hid (n2 + 1 ≤ maxLen) := hid (by unfold maxLen; omega)
                have HBY : Hid ((n2 + 1) * 32 ≤ 140737488355328) := hid (by omega)
                clear hS hb6 hK6 hB6
                go_wp2_with fail
                generalize wr.alloc (.cells #[.int .i64 y, .int .i64 t] 74) = w6 at HR6 HK6 HB6 q0 q1 x3 ⊢
                refine (timeAt_any y t K LN w6).mono ?_
                unfold Says
                rintro e w7 ⟨rfl, hb7⟩
                have HR7 := hid (row_under HR6.out hb7)
                have HK7 := hid (HK6.out.next hb7)
                have HB7 := hid (HB6.out.trans (hb7.mono HB6.out.size))
                clear hb7 q0 q1 x3 s0 s1
                have HSZ : Hid (∀ o : Obj, wc.heap.size ≤ (w7.alloc o).heap.size) := hid (fun o => by have := HB7.out.size; simp; omega)
                go_wp2_with (at_builtin; refine wpList_append_own _ rfl _ _ 35 rfl wc.heap.size 66 i9 (.agg #[.int .i64 0, .int .i64 0, .int .i64 0, .int .i64 0]) 4 32 Tryz.underlying35 hi9 hz9 hsi9 hby9 rfl (by decide) _ n2 (timeVals ((x.pats.take i).flatMap (fun k => timesOf k LN ST) ++ timesOf K LN (ST.take j))) rfl (World.ownsRow.alloc HR7.out _) ⟨w7.heap.size, 0, none⟩ 1 1 (timeVs (K, y, t, LN)) rfl rfl (four_new w7 K y t LN 66) (times_one _) HM5.out HBY.out (HSZ.out _) ?_)
                intro v' w8 hown' hgrow _
                have hg' := grownBy_of_alloc hgrow
                obtain ⟨g', cap', rfl⟩ := ownsRow_succ (k := n2) hown'
                have HOwn := hid hown'
                have hrl : ∀ k, (Value.slice B2 n2 e2).ownBlock = some k → wc.heap.size ≤ k := fun k hk => (World.ownsRow.lt HR7.out k hk).1
                have HK8 := hid (HK7.out.row HCS.out hg' hrl)
                have HB8 : Hid (Below wc.heap.size wc w8) := hid (HB7.out.grown hg' HB7.out.size hrl)
                clear hg' hgrow hown' hrl
                go_wp2_with fail
                go_roundw
                case rel =>
                  refine ⟨j + 1, n2 + 1, _, _, rfl, by go_num, by omega, hid (by have := hn2.out; omega), hid ?_, HK8, HB8⟩
                  rw [HTS.out, ← List.append_assoc, timeVals_app]
                  simpa [timeVals] using HOwn.out
                case measure => simp [RowKit.intOf]; omega
              · have hltjz : ¬ (j : Int) < (M : Int) := by omega
                have hjM : j = M := by omega
                have HR3 : Hid (wr.ownsRow wc.heap.size 66 4 (.slice B2 n2 e2) n2 (timeVals ((x.pats.take (i + 1)).flatMap fun k => timesOf k LN ST))) := hid (by
                  have h := hrow2.out
                  rw [show ST.take j = ST from List.take_of_length_le (by rw [HM.out]; omega), ← HFL.out] at h
                  exact h)
                have HN3 : Hid (n2 = (i + 1) * M) := hid (by have := hn2.out; rw [hjM] at this; rw [Nat.succ_mul]; exact this)
                clear hjM
                go_wp2
                go_roundw
                case rel => exact ⟨i + 1, n2, B2, e2, rfl, by go_num, by omega, HN3, HR3, hK5, hB5⟩
                case measure => simp [RowKit.intOf]; omega
          · have hltz : ¬ (i : Int) < (PN : Int) := by omega
            have HRF : Hid (TimeRow wr w.heap.size (.slice B n e) (x.pats.flatMap fun k => timesOf k LN ST)) := hid (by
              have h := hrow.out
              rw [show x.pats.take i = x.pats from List.take_of_length_le (by rw [HPN.out]; omega)] at h
              have hl : n = (x.pats.flatMap fun k => timesOf k LN ST).length := by
                have := hn.out
                have hi2 : i = PN := by omega
                rw [hi2] at this
                rw [this, ← HPN.out, List.length_flatMap]
                simp only [timesOf, List.length_map, HM.out]
                exact (sum_const M x.pats).symm
              unfold TimeRow
              rw [← hl]
              exact rowLow h (by have := HCS.out; omega))
            go_wp2
            try rw [Exit.noGoto_ret]
            go_ret
            exact ⟨⟨_, rfl, HRF.out⟩, hK4.out.b⟩
    · rw [if_neg (fun h => hl ⟨h.2.1, h.2.2⟩)]
      have cL := fun w => isLength_any x.len d s b m w
      rw [decide_eq_false hl] at cL
      unfold Says at cL
      have CL := hid cL
      obtain ⟨LN, hLN⟩ : ∃ LN, x.len = LN := ⟨_, rfl⟩
      rw [hLN] at CL HK HZ1 ⊢
      clear cL hl htot hgp hLN
      go_enter Tryz.func11, Tryz.ntmps11
      go_wp2
      go_step3
      go_upto_region 1 with fail
      generalize World.alloc _ _ = w1 at HK HZ1 ⊢
      obtain ⟨g0, g1, g2, g3, gl⟩ := HK.out.g
      obtain ⟨x0, x1, x2, x3, x4, x5, x6, x7, x8⟩ := BoxC.cells HK.out.x
      go_wp2_with fail
      refine (CG.out _).mono ?_
      rintro e w2 ⟨rfl, hb⟩
      have hk2 := HK.out.next hb
      obtain ⟨x0', x1', x2', x3', x4', x5', x6', x7', x8'⟩ := BoxC.cells hk2.x
      obtain ⟨g0', g1', g2', g3', gl'⟩ := hk2.g
      have HK2 := hid hk2
      clear hb hk2 x0 x1 x2 x3 x4 x5 x6 x7 x8 g0 g1 g2 g3 gl
      go_wp2_with fail
      refine (CL.out _).mono ?_
      rintro e w3 ⟨rfl, hb⟩
      have HB := hid (HK2.out.next hb).b
      clear hb x0' x1' x2' x3' x4' x5' x6' x7' x8' g0' g1' g2' g3' gl'
      go_wp2
      try rw [Exit.noGoto_ret]
      go_ret
      exact ⟨⟨_, rfl, World.ownsRow_nil _ _ _ _⟩, HB.out⟩
end Go.Proofs.YtigdcgklpapfbaaGreatDoor.S10

set_option linter.unusedVariables false
namespace Go.Proofs.YtigdcgklpapfbaaGreatDoor
open Go Go.Proofs Go.RowKit Go.Lib

theorem dd_step (u : Nat) (h : ¬ u < 10) : decDigits u = decDigits (u / 10) ++ decDigits (u % 10) := by
  rw [decDigits, dif_neg h, decDigits_one (show u % 10 < 10 by omega)]
theorem itoa4_any (n : Int) (h0 : 0 ≤ n) (h1 : n ≤ 9999) (w : World) (hE : S3.Env w) : Calls Tryz.prog 66 #[.int .i64 n] w (Says (.string (ba (decDigits n.toNat))) w) := by
  refine (Tryz.strconv_Itoa n (by omega) (by omega) w hE.tab).mono ?_
  rintro e w' ⟨rfl, k, os, rfl⟩
  refine ⟨?_, ?_⟩
  · rw [show Lib.itoa n = decDigits n.toNat from if_neg (by omega)]
    rfl
  · exact Lib.below_grow _ _ (Nat.le_refl _) _ _
end Go.Proofs.YtigdcgklpapfbaaGreatDoor
