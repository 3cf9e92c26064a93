/-
  A table without known ways by the specification: unknown. Conditions: at most 8 buildings.
  The rows of buildings between which no way is known: slices.Repeat of one number, noWays of travel. Conditions: at most 8 buildings.
  The rows of buildings between which no way is known: noWays of travel. Conditions: at most 8 buildings.
  One field of a way: readField of travel. Ways in blocks of their own. Conditions: the library's variable holds an error.
  Ways that a call owns; which of them connect the same buildings: connectsSame, slices.ContainsFunc; a list of buildings with one more: including of travel. Conditions: the rows are the call's own.
  Whether a way connects the same buildings as one of a list: connectsSame of travel, slices.IndexFunc, slices.ContainsFunc. Conditions: the ways lie in memory.
  A list of buildings with one more: including of travel; an append that leaves the old slice as it was. Conditions: the row is the call's own.
-/
import Derived.Test.YtocmbifljkcmeaaDoorTN01
import Derived.Test.YtocmbifljkcmeaaDoorTN02
import Derived.Test.YtocmbifljkcmeaaDoorTN03
import Derived.Test.YtocmbifljkcmeaaDoorTN04
import Derived.Test.YtocmbifljkcmeaaDoorTN05
import Derived.Test.YtocmbifljkcmeaaDoorTN06
import Derived.Test.YtocmbifljkcmeaaDoorProg
import Derived.WalkKit
import Derived.WalkSpells
import Derived.WalkLawsBesides
import Derived.Lib.Hide
import Derived.Deep.QuietTactic
import Derived.BigQuiet
import Derived.Laws.Rows
import Derived.OwnWalk
import Derived.Lib.BufferWrite
import Derived.Lib.UnsafeStr
import Derived.Laws.IdiomStrings
import Derived.Laws.BytesArg
import Derived.Laws.BytesString
import Derived.Laws.OwnMore
import Derived.Lib.IndexLaws
import Derived.Lib.ItoaNum
import Derived.Lib.Atoi
import Derived.Lib.Bytealg
import Derived.Handy
import Derived.Laws.ResultCell
import Derived.RegionTactic
import Derived.Deep.DeepCutAuto
import Derived.Deep.CutBlock
import Derived.Deep.RegionHeld3
import Derived.Deep.RegionLaw
import Derived.Deep.RegionWith
import Derived.Deep.AppendLies
import Derived.Maps.AppendAt
import Derived.StillTailTactics
import Derived.Shelf.Abstract
import Derived.Lib.SliceRun
import Derived.RangeFuncBox
import Derived.Lib.SlTrimSet
import Derived.Shelf.Strconv.Atoi
import Derived.Shelf.Strconv.Itoa0
import Derived.Shelf.Strconv.Itoa1
import Derived.Shelf.LaysM
import Derived.Shelf.Strconv.Itoa2
import Derived.Shelf.Strconv.Itoa3
import Derived.Shelf.Strconv.AtoiErrFast
import Derived.Shelf.Strconv.ParseIntEmpty
import Derived.Shelf.Strconv.AtoiFail
import Derived.Shelf.Strconv.Clone
import Derived.Shelf.Strconv.SyntaxError
import Derived.Shelf.LaysC
import Derived.Shelf.Strconv.ToError
import Derived.Shelf.Strconv.AtoiErr
import Derived.Shelf.Bits.Mul64
import Derived.Shelf.Slices.Turned
import Derived.Laws.CopyOwn
import Derived.Lib.AtoiErrMem
import Derived.ArgAppend
import Derived.Deep.DeepAppendRoom
set_option linter.unusedVariables false
namespace Go.Proofs.YtocmbifljkcmeaaDoor
open Go Go.Proofs Go.RowKit Go.Lib

/-- The boxes of a table that is made: the result's, the table's own. -/
structure UK (w0 : World) (lv v : Value) (w : World) : Prop where
  r : Box2 w w0.heap.size 25 (.slice none 0 0) (.slice none 0 0)
  t : Box2 w (w0.heap.size + 1) 25 lv v
  b : Below w0.heap.size w0 w
section
variable {w0 w w' : World} {lv v : Value}
theorem UK.next (h : UK w0 lv v w) (k : Below w.heap.size w w') : UK w0 lv v w' := ⟨h.r.next k, h.t.next k, h.b.trans (k.mono h.b.size)⟩
theorem UK.lt (h : UK w0 lv v w) : w0.heap.size + 2 ≤ w.heap.size := h.t.lt
theorem UK.far (h : UK w0 lv v w) (k : Below (w0.heap.size + 2) w w') : UK w0 lv v w' := ⟨h.r.kept (k.block _ (by omega)), h.t.kept (k.block _ (by omega)), h.b.trans (k.mono (by omega))⟩
theorem UK.put (h : UK w0 lv v w) (u : Value) : UK w0 lv u (w.setCell ⟨w0.heap.size + 1, 1, none⟩ u) :=
  ⟨h.r.kept (heap_setCell_other _ _ _ _ (by show w0.heap.size ≠ w0.heap.size + 1; omega)), h.t.set1 u, h.b.setCell (p := ⟨w0.heap.size + 1, 1, none⟩) (by show w0.heap.size ≤ w0.heap.size + 1; omega) u⟩
end
theorem own_block {w w' : World} {B e z n : Nat} {v : Value} {xs : List Value} (h : w.ownsRow B e z v n xs) (hk : ∀ g, v.ownBlock = some g → w'.heap[g]? = w.heap[g]?) : w'.ownsRow B e z v n xs := by
  refine ⟨h.1, ?_⟩
  rcases h.2 with h2 | ⟨g, cap, cur, rfl, hb, hg, rest⟩
  · exact .inl h2
  · exact .inr ⟨g, cap, cur, rfl, hb, (hk g rfl).trans hg, rest⟩
theorem TB.kept {w w' : World} {B m n : Nat} {v : Value} {rb rc : Nat → Nat} {F : Fun2} (h : TB w B v m n rb rc F) (hk : ∀ b, B ≤ b → w'.heap[b]? = w.heap[b]?) (hs : w.heap.size ≤ w'.heap.size) : TB w' B v m n rb rc F :=
  ⟨own_block h.own (fun g hg => hk g (World.ownsRow.lt h.own g hg).1), fun i hi k hk' => (World.cell?_of_block (w := w) (hk _ (h.lo i hi))).trans (h.ent i hi k hk'), fun i hi k hk' => (World.frozen?_of_block (w := w) (hk _ (h.lo i hi))).trans (h.fr i hi k hk'), h.inj, h.ne, h.lo, fun i hi => Nat.lt_of_lt_of_le (h.hi i hi) hs, h.cap⟩
theorem results_c1 {fn : Func} {p : Tmp} {A : TypeId} (h : fn.results = #[.cell p A]) (tmps : Array Value) (P : Program) (w : World) (a : Addr) (va : Value)
    (ha : tmps.getD p undef = .pointer (some a)) (hla : (loadVar A a).run P w = .ok va w) : (results fn tmps).run P w = .ok va w := by
  rw [Array.getD_eq_getD_getElem?] at ha
  simp only [results, h]
  simp [ha, hla, asAddr]
/-- A block of the call's own with at least n cells. -/
def Kd (w : World) (g n : Nat) : Prop := ∃ c T, w.heap[g]? = some (.cells c T (0, 0)) ∧ n ≤ c.size
theorem Kd.kept {w w' : World} {g n : Nat} (h : Kd w g n) (hk : w'.heap[g]? = w.heap[g]?) : Kd w' g n := by
  obtain ⟨c, T, h1, h2⟩ := h
  exact ⟨c, T, hk.trans h1, h2⟩
theorem Kd.set {w : World} {g n : Nat} (h : Kd w g n) (k : Nat) (v : Value) : Kd (w.setCell ⟨g, k, none⟩ v) g n := by
  obtain ⟨c, T, h1, h2⟩ := h
  exact ⟨_, T, heap_setCell_same w g k c T v h1, by simpa using h2⟩
theorem Kd.ofRow {w : World} {B e g n cap : Nat} {xs : List Value} (h : w.ownsRow B e 1 (.slice (some ⟨g, 0, none⟩) n cap) n xs) : Kd w g n := by
  rcases h.2 with ⟨h, _⟩ | ⟨g', cap', cur, h1, _, h3, h4, _, h6, _⟩
  · cases h
  · injection h1 with h1 _ h5
    injection h1 with h1
    injection h1 with h1
    subst h1
    exact ⟨cur, e, h3, by omega⟩
/-- What unknown leaves behind. -/
def UnkOut (n : Nat) (lv : Value) (w : World) (e : Ending) (w' : World) : Prop :=
  (∃ v, e = .returned (.agg #[lv, v]) ∧ ∃ rb rc : Nat → Nat, TB w' (w.heap.size + 2) v n n rb rc unkF ∧ ∀ i, i < n → Kd w' (rb i) n) ∧ Below w.heap.size w w'
theorem made_zero (n : Nat) : (madeCells #[Value.int .i64 0] n).toList = intVals (List.replicate n 0) := by
  show (madeCells #[Value.int .i64 0] n).toList = _
  rw [toList_madeCells_one]
  unfold intVals
  rw [List.map_replicate]
/-- The row that is being filled. -/
def rowF (i k : Nat) : Nat → Int := fun j => if j < k ∧ j ≠ i then -1 else 0
set_option maxHeartbeats 16000000 in
set_option maxRecDepth 100000 in
theorem unknown_any (A : Option Addr) (n c : Nat) (w : World) (hn : n ≤ 1000000) :
    Calls Tryd.prog 26 #[.slice A n c] w (UnkOut n (.slice A n c) w) := by
  obtain ⟨iI, hiI, hzI, hsI, hbI⟩ := info_parts infoInts
  obtain ⟨iN, hiN, hzN, hsN, hbN⟩ := info_parts infoInt
  have hk : UK w (.slice A n c) (.slice none 0 0) ((w.alloc (.cells #[.slice none 0 0, .slice none 0 0] 25)).alloc (.cells #[.slice A n c, .slice none 0 0] 25)) := by
    have h1 := Box2.new w 25 (.slice none 0 0) (.slice none 0 0)
    have hb := (Below.refl w.heap.size w).alloc (Nat.le_refl _) (.cells #[.slice none 0 0, .slice none 0 0] 25)
    have hs : (w.alloc (.cells #[.slice none 0 0, .slice none 0 0] 25)).heap.size = w.heap.size + 1 := by simp
    generalize w.alloc (.cells #[.slice none 0 0, .slice none 0 0] 25) = w1 at h1 hb hs ⊢
    have h2 := Box2.new w1 25 (.slice A n c) (.slice none 0 0)
    rw [hs] at h2
    exact ⟨h1.next ((Below.refl _ w1).alloc (Nat.le_refl _) _), h2, hb.alloc (by omega) _⟩
  have HK := hid hk
  clear hk
  unfold UnkOut
  go_enter Tryd.func26, Tryd.ntmps26
  go_wp2
  generalize World.alloc _ _ = wz at HK ⊢
  go_loopw [4, 5, 6] (fun iv _ _ wr => ∃ (i : Nat) (v : Value) (rb rc : Nat → Nat), iv = .int .i64 (i : Int) ∧ i ≤ n ∧ Hid (UK w (.slice A n c) v wr) ∧ Hid (TB wr (w.heap.size + 2) v i n rb rc unkF) ∧ Hid (∀ j, j < i → Kd wr (rb j) n)) (fun iv _ _ _ => n - (RowKit.intOf iv).toNat)
  case atStart => exact ⟨0, _, _, _, rfl, Nat.zero_le _, HK, hid (TB.nil _ _ _ _), hid (fun j hj => absurd hj (by omega))⟩
  case round =>
    obtain ⟨wq, rfl⟩ : ∃ x, x = wr := ⟨_, rfl⟩
    obtain ⟨i, v, rb, rc, rfl, hi, HU, HT, HD⟩ := hrel
    obtain ⟨At, ct, hvt⟩ := HT.out.slice
    subst hvt
    by_cases hlt : i < n
    · have hltz : (i : Int) < (n : Int) := by omega
      have HB8 : Hid (iN.bytes * n ≤ 281474976710656) := hid (by rw [hbN]; omega)
      have HML : Hid (n ≤ maxLen) := hid (by unfold maxLen; omega)
      go_wp2_with (at_make; refine wpList_make_full _ rfl _ _ 48 rfl wq.heap.size 3 iN (.int .i64 0) 1 Tryd.underlying48 hiN hzN hsN .i64 .i64 (n : Int) (n : Int) n rfl rfl rfl rfl HB8.out HML.out (Nat.le_refl _) ?_)
      intro w2 hown hgrow
      have hrow0 : IntRow w2 wq.heap.size (.slice (some ⟨wq.heap.size, 0, none⟩) n n) (List.replicate n 0) := by
        unfold IntRow
        rw [List.length_replicate, ← made_zero]
        exact hown
      have hbw : Below wq.heap.size wq w2 := ⟨hgrow.os, hgrow.tape, hgrow.output, hgrow.size, fun k hk => hgrow.block k hk (by simp)⟩
      have hent := fun j (hj : j < n) => IntRow.ent hrow0 j (by rw [List.length_replicate]; exact hj)
      have HROW : Hid (∀ j, j < n → w2.cell? ⟨wq.heap.size, j, none⟩ = some (.int .i64 (rowF i 0 j)) ∧ w2.frozen? ⟨wq.heap.size, j, none⟩ = false) := hid (fun j hj => by
        obtain ⟨h1, h2, _, _⟩ := hent j hj
        refine ⟨?_, h2⟩
        rw [h1]
        unfold rowF
        rw [if_neg (by omega)]
        congr 2
        rw [getD_elem (by rw [List.length_replicate]; exact hj)]
        simp)
      have HKG : Hid (Kd w2 wq.heap.size n) := hid (Kd.ofRow (B := wq.heap.size) (e := 3) (by simpa using hown))
      have HGL : Hid (wq.heap.size < w2.heap.size) := hid (hent i hlt).2.2.2
      have HBW := hid hbw
      clear hown hgrow hrow0 hent hbw
      go_wp2
      go_loopw [6] (fun kv wx => ∃ k : Nat, kv = .int .i64 (k : Int) ∧ k ≤ n ∧ Hid (∀ j, j < n → wx.cell? ⟨wq.heap.size, j, none⟩ = some (.int .i64 (rowF i k j)) ∧ wx.frozen? ⟨wq.heap.size, j, none⟩ = false) ∧ Hid (Below wq.heap.size wq wx) ∧ Hid (wq.heap.size < wx.heap.size) ∧ Hid (Kd wx wq.heap.size n)) (fun kv _ => n - (RowKit.intOf kv).toNat)
      case atStart => exact ⟨0, rfl, Nat.zero_le _, HROW, HBW, HGL, HKG⟩
      case round =>
        clear HROW HBW HGL HKG
        obtain ⟨k, rfl, hk, HROW, HBW, HGL, HKG⟩ := hrel
        by_cases hlt2 : k < n
        · have hltz2 : (k : Int) < (n : Int) := by omega
          by_cases hki : k = i
          · have hb : ((k : Int) != (i : Int)) = false := by simp [hki]
            have HROW2 : Hid (∀ j, j < n → wr.cell? ⟨wq.heap.size, j, none⟩ = some (.int .i64 (rowF i (k + 1) j)) ∧ wr.frozen? ⟨wq.heap.size, j, none⟩ = false) := hid (fun j hj => by
              obtain ⟨h1, h2⟩ := HROW.out j hj
              refine ⟨?_, h2⟩
              rw [h1]
              unfold rowF
              by_cases hjk : j = k
              · rw [if_neg (by omega), if_neg (by omega)]
              · by_cases hj2 : j < k ∧ j ≠ i
                · rw [if_pos hj2, if_pos (by omega)]
                · rw [if_neg hj2, if_neg (by omega)])
            clear HROW
            go_wp2
            go_roundw
            case rel => exact ⟨k + 1, by go_num, by omega, HROW2, HBW, HGL, HKG⟩
            case measure => simp [RowKit.intOf]; omega
          · have hb : ((k : Int) != (i : Int)) = true := by simp; omega
            have hd : decide (n ≤ k) = false := decide_eq_false (by omega)
            obtain ⟨z1, z2⟩ := HROW.out k hlt2
            obtain ⟨g, hg⟩ : ∃ g, wq.heap.size = g := ⟨_, rfl⟩
            have HROW2 : Hid (∀ j, j < n → (wr.setCell ⟨g, k, none⟩ (.int .i64 (-1))).cell? ⟨g, j, none⟩ = some (.int .i64 (rowF i (k + 1) j)) ∧ (wr.setCell ⟨g, k, none⟩ (.int .i64 (-1))).frozen? ⟨g, j, none⟩ = false) := hid (fun j hj => by
              obtain ⟨h1, h2⟩ := HROW.out j hj
              rw [hg] at h1 h2
              rw [World.frozen?_setCell]
              refine ⟨?_, h2⟩
              unfold rowF
              by_cases hjk : j = k
              · subst hjk
                rw [if_pos (by omega), World.cell?_setCell_same _ _ _ h1]
              · rw [World.cell?_setCell_other (h := fun e => hjk (congrArg Addr.off e).symm), h1]
                unfold rowF
                by_cases hj2 : j < k ∧ j ≠ i
                · rw [if_pos hj2, if_pos (by omega)]
                · rw [if_neg hj2, if_neg (by omega)])
            have HB2 : Hid (Below g wq (wr.setCell ⟨g, k, none⟩ (.int .i64 (-1)))) := hid (by have := HBW.out; rw [hg] at this; exact this.setCell (p := ⟨g, k, none⟩) (Nat.le_refl _) _)
            have HG2 : Hid (g < (wr.setCell ⟨g, k, none⟩ (.int .i64 (-1))).heap.size) := hid (by have := HGL.out; rw [hg] at this; simpa using this)
            have HK2 : Hid (Kd (wr.setCell ⟨g, k, none⟩ (.int .i64 (-1))) g n) := hid (by have := HKG.out; rw [hg] at this; exact this.set _ _)
            rw [hg] at z1 z2 ⊢
            clear HROW HBW HGL HKG hg
            go_wp2
            go_roundw
            case rel => exact ⟨k + 1, by go_num, by omega, HROW2, HB2, HG2, HK2⟩
            case measure => simp [RowKit.intOf]; omega
        · have hltz2 : ¬ (k : Int) < (n : Int) := by omega
          obtain rfl : k = n := by omega
          have hu := HU.out.next HBW.out
          have r1 := hu.t.c1
          have f1 := hu.t.free 1
          have HU2 := hid hu
          have HT2 := hid (HT.out.next HBW.out).own
          have hlw := HU.out.lt
          have HC3 : Hid (i + 1 ≤ maxLen) := hid (by unfold maxLen; omega)
          have HC4 : Hid ((i + 1) * 24 ≤ 140737488355328) := hid (by omega)
          have HC5 : Hid (∀ o : Obj, w.heap.size + 2 ≤ (wr.alloc o).heap.size) := hid (fun o => by have := HBW.out.size; simp; omega)
          have HG : Hid (∃ g, wq.heap.size = g) := hid ⟨_, rfl⟩
          obtain ⟨g, hg⟩ := HG.out
          have HGE := hid hg
          rw [hg]
          clear hu hlw HG hg
          go_wp2_with (at_builtin; refine wpList_append_own_at _ rfl _ _ 23 rfl (w.heap.size + 2) 48 iI (.slice none 0 0) 1 24 Tryd.underlying23 hiI hzI hsI hbI rfl (by decide) _ i _ rfl (World.ownsRow.alloc HT2.out _) ⟨wr.heap.size, 0, none⟩ 1 1 [.slice (some ⟨g, 0, none⟩) k k] rfl rfl (one_new _ _ _) (one_slice _ _ _) HC3.out HC4.out (HC5.out _) ?_)
          intro v' w4 hown' hgrow _ hat
          have hTB := TB.snoc HT.out HU.out.lt (by rw [HGE.out]; exact Nat.le_refl _) HBW.out (by rw [← HGE.out]; exact HGL.out) (fun j hj => by
              rw [← HGE.out]
              rw [(HROW.out j hj).1]
              unfold rowF unkF
              by_cases hji : i = j
              · rw [if_neg (by omega), if_pos hji]
              · rw [if_pos (by omega), if_neg hji]) (fun j hj => by rw [← HGE.out]; exact (HROW.out j hj).2) ⟨Nat.le_refl _, by omega⟩ ((Below.refl wr.heap.size wr).alloc (Nat.le_refl _) (.cells #[.slice (some ⟨g, 0, none⟩) k k] 48)) hown' hgrow (hat.imp id (fun h => h.trans (by simp)))
          have hsu : UK w (.slice A k c) (.slice At i ct) w4 := by
            have hb0 := (HU2.out.next ((Below.refl wr.heap.size wr).alloc (Nat.le_refl _) (.cells #[.slice (some ⟨g, 0, none⟩) k k] 48)))
            exact hb0.far ((Below.refl _ _).grown hgrow hb0.lt (fun q hq => (World.ownsRow.lt HT2.out q hq).1))
          have f4 := hsu.t.free 1
          have r4 := hsu.t.c1
          have HD2 : Hid (∀ j, j < i + 1 → Kd (w4.setCell ⟨w.heap.size + 1, 1, none⟩ v') ((fun j => if j = i then g else rb j) j) k) := hid (fun j hj => by
            have hb3 : ∀ b, b < wr.heap.size → (Value.slice At i ct).ownBlock ≠ some b → b ≠ w.heap.size + 1 → (w4.setCell ⟨w.heap.size + 1, 1, none⟩ v').heap[b]? = wr.heap[b]? := fun b hb hne hn => by
              rw [heap_setCell_other _ _ _ _ (by show b ≠ w.heap.size + 1; omega)]
              exact (hgrow.block b (by simp; omega) (fun e => hne e.symm)).trans (heap_alloc_old _ _ hb)
            have hlw := HU.out.lt
            have hgl := HGL.out
            rw [HGE.out] at hgl
            have hge := HGE.out
            dsimp only
            by_cases hji : j = i
            · rw [if_pos hji]
              have hkg := HKG.out
              rw [HGE.out] at hkg
              refine hkg.kept (hb3 g hgl (fun e => ?_) (by omega))
              have := (World.ownsRow.lt HT.out.own g e).2
              omega
            · rw [if_neg hji]
              have hlo := HT.out.lo j (by omega)
              have hhi := HT.out.hi j (by omega)
              refine (HD.out j (by omega)).kept ((hb3 (rb j) (by omega) (HT.out.ne j (by omega)) (by omega)).trans ?_)
              exact HBW.out.block (rb j) (by rw [HGE.out]; omega))
          have HTB := hid (TB.kept (w' := w4.setCell ⟨w.heap.size + 1, 1, none⟩ v') hTB (fun b hb => heap_setCell_other _ _ _ _ (by show b ≠ w.heap.size + 1; omega)) (by simp))
          have HSU := hid (hsu.put v')
          obtain ⟨A4, c4, hv4⟩ := hTB.slice
          subst hv4
          clear hTB hsu hown' hgrow hat r1 f1
          go_wp2_with fail
          go_roundw
          case rel => exact ⟨i + 1, _, _, _, by go_num, by omega, HSU, HTB, HD2⟩
          case measure => simp [RowKit.intOf]; omega
    · have hltz : ¬ (i : Int) < (n : Int) := by omega
      obtain rfl : i = n := by omega
      have c0 := HU.out.t.c0
      have c1 := HU.out.t.c1
      have d0 := HU.out.r.c0
      have d1 := HU.out.r.c1
      have f0 := HU.out.r.free 0
      have f1 := HU.out.r.free 1
      go_wp2
      have hz := HU.out.r.set (.slice A i c) (.slice At i ct)
      have hT := TB.kept (w' := (wq.setCell ⟨w.heap.size, 0, none⟩ (.slice A i c)).setCell ⟨w.heap.size, 1, none⟩ (.slice At i ct)) HT.out (fun b hb => by rw [heap_setCell_other _ _ _ _ (by show b ≠ w.heap.size; omega), heap_setCell_other _ _ _ _ (by show b ≠ w.heap.size; omega)]) (by simp)
      have hD : ∀ j, j < i → Kd ((wq.setCell ⟨w.heap.size, 0, none⟩ (.slice A i c)).setCell ⟨w.heap.size, 1, none⟩ (.slice At i ct)) (rb j) i := fun j hj => (HD.out j hj).kept (by
        have := HT.out.lo j hj
        rw [heap_setCell_other _ _ _ _ (by show rb j ≠ w.heap.size; omega), heap_setCell_other _ _ _ _ (by show rb j ≠ w.heap.size; omega)])
      exact bodyPost_ret (v := .agg #[.slice A i c, .slice At i ct]) (results_c1 rfl _ _ _ ⟨w.heap.size, 0, none⟩ _ rfl (loadTrav hz.c0 hz.c1)) rfl ⟨⟨_, rfl, rb, ⟨rc, hT⟩, hD⟩, (HU.out.b.setCell (p := ⟨w.heap.size, 0, none⟩) (Nat.le_refl _) _).setCell (p := ⟨w.heap.size, 1, none⟩) (Nat.le_refl _) _⟩
end Go.Proofs.YtocmbifljkcmeaaDoor

set_option linter.unusedVariables false
namespace Go.Proofs.YtocmbifljkcmeaaDoor
open Go Go.Proofs Go.RowKit Go.Lib

/-- A block of n cells, of which the first k hold x. -/
def Fill (w : World) (g n k : Nat) (x : Int) : Prop := ∃ cur : Array Value, w.heap[g]? = some (.cells cur 3 (0, 0)) ∧ cur.size = n ∧ ∀ j, j < k → cur[j]? = some (.int .i64 x)
theorem Fill.cell {w : World} {g n k : Nat} {x : Int} (h : Fill w g n k x) {j : Nat} (hj : j < k) : w.cell? ⟨g, j, none⟩ = some (.int .i64 x) := by
  obtain ⟨cur, h1, _, h3⟩ := h
  rw [Lib.cell_of_heap h1]
  exact h3 j hj
theorem Fill.free {w : World} {g n k : Nat} {x : Int} (h : Fill w g n k x) (j : Nat) : w.frozen? ⟨g, j, none⟩ = false := by
  obtain ⟨cur, h1, _, _⟩ := h
  simp [World.frozen?, h1]
theorem Fill.lt {w : World} {g n k : Nat} {x : Int} (h : Fill w g n k x) : g < w.heap.size := by
  obtain ⟨cur, h1, _, _⟩ := h
  exact (Array.getElem?_eq_some_iff.1 h1).1
theorem Fill.row {w : World} {g n m off : Nat} {x : Int} {cur : Array Value} (hg : w.heap[g]? = some (.cells cur 3 (0, 0))) (hs : cur.size = n) (hc : ∀ j, j < off → cur[j]? = some (.int .i64 x)) (hm : off + m ≤ n) :
    Fill (w.setRow g (cur.toList.take off ++ ((List.replicate m (Value.int .i64 x)) ++ cur.toList.drop (off + (List.replicate m (Value.int .i64 x)).length))).toArray) g n (off + m) x := by
  refine ⟨_, setRow_heap w g cur _ _ (0, 0) hg, by simp; omega, fun j hj => ?_⟩
  simp only [List.getElem?_toArray, List.length_replicate]
  by_cases h1 : j < off
  · rw [List.getElem?_append_left (by simp; omega), List.getElem?_take, if_pos h1, Array.getElem?_toList]
    exact hc j h1
  · rw [List.getElem?_append_right (by simp; omega)]
    simp only [List.length_take, Array.length_toList]
    rw [List.getElem?_append_left (by simp; omega), List.getElem?_replicate, if_pos (by omega)]
/-- copy into a row of the call's own, in a region that draws its order. -/
theorem step_copy_own {P : Program} {w : World} {ops : Array Oper} {o : Oper} {a : Act} {K : Act → World → Prop} {Q : Exit → Act → World → Prop} {E : Prop} (hgd : o.guard = none) (d s : Operand) (dT sT : TypeId)
    (ho : o.op = .call { callee := .builtin .copy, args := #[d, s], argTypes := #[dT, sT] }) (elem : TypeId) (hu : P.underlying dT = some (.slice elem)) (hsz : (P.info? elem).map (·.size) = some 1)
    (g off dLen dCap : Nat) (ad : Addr) (sLen sCap : Nat) (hd : a.eval d = .slice (some ⟨g, off, none⟩) dLen dCap) (hs : a.eval s = .slice (some ad) sLen sCap)
    (cur : Array Value) (t : TypeId) (hg : w.heap[g]? = some (.cells cur t (0, 0))) (cs : List Value) (hn : cs.length = Nat.min sLen dLen)
    (hsrc : ∀ j v, cs[j]? = some v → w.cell? (ad.add j) = some v) (hfit : off + cs.length ≤ cur.size) (h1 : ∀ v ∈ cs, v.oneCell' = true) (W : World) (hW : w.setRow g (cur.toList.take off ++ (cs ++ cur.toList.drop (off + cs.length))).toArray = W)
    (h : K (a.put o.dst (goInt cs.length)) W) : if Region.wanted o (yielded ops a.tmps) = true then Oper.wp P o a w K Q else E := by
  have hw : Region.wanted o (yielded ops a.tmps) = true := by simp [Region.wanted, hgd]
  rw [if_pos hw]
  have hrun := run_copy_row (P := P) w dT sT o.type elem g off dLen dCap ad sLen sCap cur t cs hu hsz hg hn hsrc hfit h1
  unfold Oper.wp
  simp [execOp, ho, resolve, invoke, builtin, hd, hs, hrun, Result.andThen]
  subst hW
  exact h
/-- What Repeat of one number leaves behind. -/
def RepOut (n : Nat) (x : Int) (w : World) (e : Ending) (w' : World) : Prop := (∃ g, e = .returned (.slice (some ⟨g, 0, none⟩) n n) ∧ w.heap.size ≤ g ∧ Fill w' g n n x) ∧ Below w.heap.size w w'
set_option maxHeartbeats 8000000 in
set_option maxRecDepth 100000 in
theorem repeat_any (b c n : Nat) (x : Int) (w : World) (hx : w.cell? ⟨b, 0, none⟩ = some (.int .i64 x)) (hn0 : 0 < n) (hn : n ≤ 8) :
    Calls Tryd.prog 65 #[.slice (some ⟨b, 0, none⟩) 1 c, .int .i64 (n : Int)] w (RepOut n x w) := by
  obtain ⟨iN, hiN, hzN, hsN, hbN⟩ := info_parts infoInt
  have cM := Tryd.bits_Mul 1 n (by decide) (by omega) w
  rw [show 1 * n / 18446744073709551616 = 0 by omega, show 1 * n % 18446744073709551616 = n by omega] at cM
  have CM := hid cM
  have hn1 : ¬ (n : Int) < 0 := by omega
  have hn2 : ¬ (9223372036854775807 : Int) < (n : Int) := by omega
  have hw1 : IntKind.u64.wrap (n : Int) = (n : Int) := IntWalk.u64_in _ (by omega)
  have hw2 : IntKind.i64.wrap (n : Int) = (n : Int) := IntWalk.i64_in _ (by omega)
  have HX := hid hx
  have hb := World.block_lt_of_cell? w _ hx
  have HBL : Hid (b < w.heap.size) := hid hb
  have HB8 : Hid (iN.bytes * n ≤ 281474976710656) := hid (by rw [hbN]; omega)
  have HML : Hid (n ≤ maxLen) := hid (by unfold maxLen; omega)
  clear cM hx hb
  unfold RepOut
  go_enter Tryd.func65, Tryd.ntmps65
  go_wp2_with fail
  refine CM.out.mono ?_
  rintro e w1 ⟨rfl, rfl⟩
  go_wp2_with (at_make; refine wpList_make_full _ rfl _ _ 48 rfl w1.heap.size 3 iN (.int .i64 0) 1 Tryd.underlying48 hiN hzN hsN .i64 .i64 (n : Int) (n : Int) n rfl rfl rfl rfl HB8.out HML.out (Nat.le_refl _) ?_)
  intro w2 hown hgrow
  have hB2 : Below w1.heap.size w1 w2 := ⟨hgrow.os, hgrow.tape, hgrow.output, hgrow.size, fun k hk => hgrow.block k hk (by simp)⟩
  have hkd : ∃ cur : Array Value, w2.heap[w1.heap.size]? = some (.cells cur 3 (0, 0)) ∧ cur.size = n := by
    rcases hown.2 with ⟨h, _⟩ | ⟨g', cap', cur, h1, _, h3, h4, _, h6, _⟩
    · cases h
    · injection h1 with h1 _ h5
      injection h1 with h1
      injection h1 with h1
      subst h1
      exact ⟨cur, h3, by omega⟩
  obtain ⟨cur, hg, hcs⟩ := hkd
  have hx2 : w2.cell? ⟨b, 0, none⟩ = some (.int .i64 x) := (hB2.cell (p := ⟨b, 0, none⟩) HBL.out).trans HX.out
  have HG := hid hg
  have HCS : Hid ((List.replicate 1 (Value.int .i64 x)).length = Nat.min 1 n) := hid (by rw [List.length_replicate]; exact (Nat.min_eq_left (by omega)).symm)
  have HSRC : Hid (∀ (j : Nat) (v : Value), (List.replicate 1 (Value.int .i64 x))[j]? = some v → w2.cell? ((⟨b, 0, none⟩ : Addr).add j) = some v) := hid (fun j v hj => by
    rw [List.getElem?_replicate] at hj
    split at hj
    · injection hj with hj
      subst hj
      obtain rfl : j = 0 := by omega
      rw [Addr.add_lit]
      exact hx2
    · cases hj)
  have HFIT : Hid (0 + (List.replicate 1 (Value.int .i64 x)).length ≤ cur.size) := hid (by rw [List.length_replicate, hcs]; omega)
  have HONE : Hid (∀ v ∈ List.replicate 1 (Value.int .i64 x), v.oneCell' = true) := hid (fun v hv => by rw [List.eq_of_mem_replicate hv]; rfl)
  have HF1 := hid (Fill.row (m := 1) (off := 0) (x := x) hg hcs (fun j hj => absurd hj (by omega)) (by omega))
  have HB1 := hid (below_setRow hB2 (Nat.le_refl _) (cur.toList.take 0 ++ ((List.replicate 1 (Value.int .i64 x)) ++ cur.toList.drop (0 + (List.replicate 1 (Value.int .i64 x)).length))).toArray)
  clear hown hgrow hB2 hg hcs hx2
  go_wp2_with (with_reducible refine wpList_copy_own rfl (.tmp 31) (.tmp 32) 48 48 rfl 3 Tryd.underlying48 (by kernel_rfl) w1.heap.size 0 n n ⟨b, 0, none⟩ 1 c rfl rfl cur 3 HG.out (List.replicate 1 (.int .i64 x)) HCS.out HSRC.out HFIT.out HONE.out ?_; generalize w2.setRow w1.heap.size _ = w3 at HF1 HB1 ⊢)
  obtain ⟨g, hge⟩ : ∃ g, w1.heap.size = g := ⟨_, rfl⟩
  have HGE := hid hge
  rw [hge] at HF1 HB1 ⊢
  clear hge HG HCS HSRC HFIT HONE
  go_wp2_with fail
  go_loopw [8] (fun kv wr => ∃ k : Nat, kv = .int .i64 (k : Int) ∧ 0 < k ∧ k ≤ n ∧ Hid (Fill wr g n k x) ∧ Hid (Below g w1 wr)) (fun kv _ => n - (RowKit.intOf kv).toNat)
  case atStart => exact ⟨1, rfl, by omega, by omega, HF1, HB1⟩
  case round =>
    clear HF1 HB1
    obtain ⟨k, rfl, hk0, hk, HF, HB⟩ := hrel
    by_cases hlt : k < n
    · have hltz : (k : Int) < (n : Int) := by omega
      have hne : ¬ n = k := by omega
      have hd1 : decide (k ≤ n) = true := decide_eq_true hk
      obtain ⟨cur, hg, hcs, hcc⟩ := HF.out
      obtain ⟨m, hm⟩ : ∃ m, min k (n - k) = m := ⟨_, rfl⟩
      have hm1 : 0 < m ∧ m ≤ n - k ∧ m ≤ k := by
        omega
      have HG : Hid (wr.drew.heap[g]? = some (.cells cur 3 (0, 0))) := hid hg
      have HCS : Hid ((List.replicate m (Value.int .i64 x)).length = Nat.min k (n - k)) := hid (by rw [List.length_replicate]; exact hm.symm)
      have HSRC : Hid (∀ (j : Nat) (v : Value), (List.replicate m (Value.int .i64 x))[j]? = some v → wr.drew.cell? ((⟨g, 0, none⟩ : Addr).add j) = some v) := hid (fun j v hj => by
        rw [List.getElem?_replicate] at hj
        split at hj
        · injection hj with hj
          subst hj
          rw [Addr.add_lit, Nat.zero_add]
          exact HF.out.cell (by omega)
        · cases hj)
      have HFIT : Hid (k + (List.replicate m (Value.int .i64 x)).length ≤ cur.size) := hid (by rw [List.length_replicate, hcs]; omega)
      have HONE : Hid (∀ v ∈ List.replicate m (Value.int .i64 x), v.oneCell' = true) := hid (fun v hv => by rw [List.eq_of_mem_replicate hv]; rfl)
      have HF2 := hid (Fill.row (m := m) (off := k) (x := x) (w := wr.drew) hg hcs hcc (by omega))
      have HB2 := hid (below_setRow (HB.out.drew) (Nat.le_refl g) (cur.toList.take k ++ ((List.replicate m (Value.int .i64 x)) ++ cur.toList.drop (k + (List.replicate m (Value.int .i64 x)).length))).toArray)
      have hw3 : IntKind.i64.wrap ((k : Int) + (m : Int)) = (k : Int) + (m : Int) := IntWalk.i64_in _ (by omega)
      clear hg hcs hcc HF HB hm
      obtain ⟨w5, hw5⟩ : ∃ W, wr.drew.setRow g (cur.toList.take k ++ ((List.replicate m (Value.int .i64 x)) ++ cur.toList.drop (k + (List.replicate m (Value.int .i64 x)).length))).toArray = W := ⟨_, rfl⟩
      rw [hw5] at HF2 HB2
      have HW5 := hid hw5
      have HGI : Hid (goInt (List.replicate m (Value.int .i64 x)).length = .int .i64 (m : Int)) := hid (by rw [List.length_replicate]; rfl)
      clear hw5
      go_upto_region 9 with fail
      go_region_law (refine step_copy_own rfl (.tmp 41) (.tmp 44) 48 48 rfl 3 Tryd.underlying48 (by kernel_rfl) g k (n - k) (n - k) ⟨g, 0, none⟩ k n (by simp [Act.eval, Act.put]) (by simp [Act.eval, Act.put]) cur 3 HG.out (List.replicate m (.int .i64 x)) HCS.out HSRC.out HFIT.out HONE.out w5 HW5.out ?_; rw [HGI.out])
      go_simp
      go_wp2
      go_roundw
      case rel => exact ⟨k + m, by go_num, by omega, by omega, HF2, HB2⟩
      case measure => simp [RowKit.intOf]; omega
    · have hltz : ¬ (k : Int) < (n : Int) := by omega
      obtain rfl : k = n := by omega
      go_wp2
      go_ret
      refine ⟨⟨g, rfl, Nat.le_of_eq HGE.out, HF.out⟩, ?_⟩
      rw [HGE.out]
      exact HB.out
end Go.Proofs.YtocmbifljkcmeaaDoor

set_option linter.unusedVariables false
namespace Go.Proofs.YtocmbifljkcmeaaDoor
open Go Go.Proofs Go.RowKit Go.Lib

/-- What noWays leaves behind. -/
def NoOut (n : Nat) (w : World) (e : Ending) (w' : World) : Prop := (∃ v, e = .returned v ∧ ∃ rb rc : Nat → Nat, TB w' w.heap.size v n n rb rc unkF) ∧ Below w.heap.size w w'
set_option maxHeartbeats 8000000 in
set_option maxRecDepth 100000 in
theorem noWays_any (n : Nat) (w : World) (hn : n ≤ 8) : Calls Tryd.prog 57 #[.int .i64 (n : Int)] w (NoOut n w) := by
  obtain ⟨iI, hiI, hzI, hsI, hbI⟩ := info_parts infoInts
  unfold NoOut
  go_enter Tryd.func57, Tryd.ntmps57
  go_wp2
  go_loopw [3, 4, 5, 7] (fun v _ _ iv wr => ∃ (i : Nat) (rb rc : Nat → Nat), iv = .int .i64 (i : Int) ∧ i ≤ n ∧ Hid (TB wr w.heap.size v i n rb rc unkF) ∧ Hid (Below w.heap.size w wr)) (fun _ _ _ iv _ => n - (RowKit.intOf iv).toNat)
  case atStart => exact ⟨0, _, _, rfl, Nat.zero_le _, hid (TB.nil _ _ _ _), hid (Below.refl _ _)⟩
  case round =>
    obtain ⟨i, rb, rc, rfl, hi, HT, HB⟩ := hrel
    obtain ⟨At, ct, hvt⟩ := HT.out.slice
    subst hvt
    by_cases hlt : i < n
    · have hltz : (i : Int) < (n : Int) := by omega
      have hd : decide (n ≤ i) = false := decide_eq_false (by omega)
      have hx0 : (wr.alloc (.cells #[.int .i64 (-1)] 3)).cell? ⟨wr.heap.size, 0, none⟩ = some (.int .i64 (-1)) := by rw [Lib.cell_of_heap (heap_alloc_new wr _)]; rfl
      have hb1 : Below wr.heap.size wr (wr.alloc (.cells #[.int .i64 (-1)] 3)) := (Below.refl _ wr).alloc (Nat.le_refl _) _
      have hs1 : (wr.alloc (.cells #[.int .i64 (-1)] 3)).heap.size = wr.heap.size + 1 := by simp
      have cR := repeat_any wr.heap.size 1 n (-1) (wr.alloc (.cells #[.int .i64 (-1)] 3)) hx0 (by omega) hn
      have CR := hid cR
      have HB1 := hid hb1
      have HS1 := hid hs1
      have HBS := hid HB.out.size
      clear cR hx0 hb1 hs1
      go_wp2_with fail
      refine CR.out.mono ?_
      rintro e w2 ⟨⟨g, rfl, hg0, hF⟩, hb2⟩
      have hbw : Below wr.heap.size wr w2 := HB1.out.trans (hb2.mono (by rw [HS1.out]; omega))
      have z1 := hF.cell hlt
      have z2 := hF.free i
      have hgl := hF.lt
      rw [HS1.out] at hg0
      have HG0 := hid hg0
      have hent : ∀ k, k < n → (w2.setCell ⟨g, i, none⟩ (.int .i64 0)).cell? ⟨g, k, none⟩ = some (.int .i64 (unkF i k)) := fun k hk => by
        unfold unkF
        by_cases hki : i = k
        · subst hki
          rw [if_pos rfl, World.cell?_setCell_same _ _ _ (hF.cell hk)]
        · rw [if_neg hki, World.cell?_setCell_other (h := fun e => hki (congrArg Addr.off e))]
          exact hF.cell hk
      have hfr : ∀ k, k < n → (w2.setCell ⟨g, i, none⟩ (.int .i64 0)).frozen? ⟨g, k, none⟩ = false := fun k hk => by
        rw [World.frozen?_setCell]
        exact hF.free k
      have hbs : Below wr.heap.size wr (w2.setCell ⟨g, i, none⟩ (.int .i64 0)) := hbw.setCell (p := ⟨g, i, none⟩) (by show wr.heap.size ≤ g; omega) _
      have HENT := hid hent
      have HFR := hid hfr
      have HBS2 := hid hbs
      have HGL : Hid (g < (w2.setCell ⟨g, i, none⟩ (.int .i64 0)).heap.size) := hid (by simpa using hgl)
      have HT2 := hid (HT.out.next hbs).own
      have HC3 : Hid (i + 1 ≤ maxLen) := hid (by unfold maxLen; omega)
      have HC4 : Hid ((i + 1) * 24 ≤ 140737488355328) := hid (by omega)
      have HC5 : Hid (∀ o : Obj, w.heap.size ≤ ((w2.setCell ⟨g, i, none⟩ (.int .i64 0)).alloc o).heap.size) := hid (fun o => by have := HBS.out; have := hbs.size; simp at this ⊢; omega)
      obtain ⟨w5, hw5⟩ : ∃ W, w2.setCell ⟨g, i, none⟩ (.int .i64 0) = W := ⟨_, rfl⟩
      rw [hw5] at HENT HFR HBS2 HGL HT2 HC5
      clear hb2 hbw hent hfr hbs hF hg0 hgl
      go_upto_region 7 with fail
      (try rw [hw5])
      clear hw5 z1 z2
      go_wp2_with (at_builtin; refine wpList_append_own_at _ rfl _ _ 23 rfl w.heap.size 48 iI (.slice none 0 0) 1 24 Tryd.underlying23 hiI hzI hsI hbI rfl (by decide) _ i _ rfl (World.ownsRow.alloc HT2.out _) ⟨w5.heap.size, 0, none⟩ 1 1 [.slice (some ⟨g, 0, none⟩) n n] rfl rfl (one_new _ _ _) (one_slice _ _ _) HC3.out HC4.out (HC5.out _) ?_)
      intro v' w6 hown' hgrow _ hat
      have hTB := TB.snoc HT.out HBS.out (by have := HG0.out; omega) HBS2.out HGL.out HENT.out HFR.out ⟨Nat.le_refl _, by omega⟩ ((Below.refl w5.heap.size w5).alloc (Nat.le_refl _) (.cells #[.slice (some ⟨g, 0, none⟩) n n] 48)) hown' hgrow (hat.imp id (fun h => h.trans (by simp)))
      have hb6 : Below w.heap.size wr w6 := (HBS2.out.mono HBS.out).trans (((Below.refl w.heap.size w5).alloc (by have := HBS.out; have := HBS2.out.size; omega) _).grown hgrow (HC5.out _) (fun k hk => (World.ownsRow.lt HT2.out k hk).1))
      have HTB := hid hTB
      have HB6 := hid (HB.out.trans hb6)
      obtain ⟨A6, c6, hv6⟩ := hTB.slice
      subst hv6
      clear hTB hb6 hown' hgrow hat
      go_wp2_with fail
      go_roundw
      case rel => exact ⟨i + 1, _, _, by go_num, by omega, HTB, HB6⟩
      case measure => simp [RowKit.intOf]; omega
    · have hltz : ¬ (i : Int) < (n : Int) := by omega
      obtain rfl : i = n := by omega
      go_wp2
      go_ret
      exact ⟨⟨_, rfl, rb, rc, HT.out⟩, HB.out⟩
end Go.Proofs.YtocmbifljkcmeaaDoor

set_option linter.unusedVariables false
namespace Go.Proofs.YtocmbifljkcmeaaDoor
open Go Go.Proofs Go.RowKit Go.Lib

/-- A block of three cells. -/
structure Box3 (w : World) (B : Nat) (T : TypeId) (v0 v1 v2 : Value) : Prop where
  h : w.heap[B]? = some (.cells #[v0, v1, v2] T (0, 0))
section
variable {w w' : World} {B : Nat} {T : TypeId} {v0 v1 v2 : Value}
theorem Box3.new (w : World) (T : TypeId) (v0 v1 v2 : Value) : Box3 (w.alloc (.cells #[v0, v1, v2] T)) w.heap.size T v0 v1 v2 := ⟨heap_alloc_new w _⟩
theorem Box3.lt (h : Box3 w B T v0 v1 v2) : B < w.heap.size := (Array.getElem?_eq_some_iff.1 h.h).1
theorem Box3.kept (h : Box3 w B T v0 v1 v2) (hk : w'.heap[B]? = w.heap[B]?) : Box3 w' B T v0 v1 v2 := ⟨hk.trans h.h⟩
theorem Box3.next (h : Box3 w B T v0 v1 v2) (k : Below w.heap.size w w') : Box3 w' B T v0 v1 v2 := h.kept (k.block B h.lt)
theorem Box3.c0 (h : Box3 w B T v0 v1 v2) : w.cell? ⟨B, 0, none⟩ = some v0 := by rw [Lib.cell_of_heap h.h]; rfl
theorem Box3.c1 (h : Box3 w B T v0 v1 v2) : w.cell? ⟨B, 1, none⟩ = some v1 := by rw [Lib.cell_of_heap h.h]; rfl
theorem Box3.c2 (h : Box3 w B T v0 v1 v2) : w.cell? ⟨B, 2, none⟩ = some v2 := by rw [Lib.cell_of_heap h.h]; rfl
theorem Box3.free (h : Box3 w B T v0 v1 v2) (j : Nat) : w.frozen? ⟨B, j, none⟩ = false := by simp [World.frozen?, h.h]
theorem Box3.put0 (h : Box3 w B T v0 v1 v2) (u : Value) : Box3 (w.setCell ⟨B, 0, none⟩ u) B T u v1 v2 := ⟨by rw [heap_setCell_same w B 0 _ _ u h.h]; rfl⟩
theorem Box3.put1 (h : Box3 w B T v0 v1 v2) (u : Value) : Box3 (w.setCell ⟨B, 1, none⟩ u) B T v0 u v2 := ⟨by rw [heap_setCell_same w B 1 _ _ u h.h]; rfl⟩
theorem Box3.put2 (h : Box3 w B T v0 v1 v2) (u : Value) : Box3 (w.setCell ⟨B, 2, none⟩ u) B T v0 v1 u := ⟨by rw [heap_setCell_same w B 2 _ _ u h.h]; rfl⟩
theorem Box3.set (h : Box3 w B T v0 v1 v2) (u0 u1 u2 : Value) : Box3 (((w.setCell ⟨B, 0, none⟩ u0).setCell ⟨B, 1, none⟩ u1).setCell ⟨B, 2, none⟩ u2) B T u0 u1 u2 := ((h.put0 u0).put1 u1).put2 u2
end
/-- A way in a block of its own. -/
abbrev WayBox (w : World) (B : Nat) (T : TypeId) (r : WayD) : Prop := Box3 w B T (.string (ba r.1)) (.string (ba r.2.1)) (.int .i64 r.2.2)
theorem grown_of_below {w w' : World} (h : Below w.heap.size w w') : w.grownBy w' none := ⟨h.os, h.tape, h.output, h.size, fun k hk _ => h.block k hk⟩
theorem put_grown {W w2 : World} (hb : Below W.heap.size W w2) (R j : Nat) (v : Value) : W.grownBy (w2.setCell ⟨R, j, none⟩ v) (some R) :=
  ((grown_of_below hb).but (some R)).trans ⟨by simp [World.setCell], by simp [World.setCell], by simp [World.setCell], by simp [World.setCell], fun k _ hk => Below.heap_setCell w2 ⟨R, j, none⟩ v k (fun e => hk (by rw [show k = R from e]))⟩
/-- What a call that reads field i of the way in block R leaves behind. -/
def FieldOut8 (i : Nat) (x : Str) (r : WayD) (R : Nat) (w : World) (e : Ending) (w' : World) : Prop :=
  e = .returned (.int .i64 (setW i x r).2) ∧ WayBox w' R 51 (setW i x r).1 ∧ w.grownBy w' (some R)
section
variable (x : Str) (r : WayD) (R : Nat) (W : World) (hX : WayBox W R 51 r)
include hX
set_option maxHeartbeats 8000000 in
set_option maxRecDepth 100000 in
theorem wayField0 : Calls Tryd.prog 37 #[.pointer (some ⟨R, 0, none⟩), .int .i64 0, .string (ba x)] W (FieldOut8 0 x r R W) := by
  unfold FieldOut8
  have cC := fun W => tcode_any (ba x) W
  rw [lst_ba] at cC
  obtain ⟨u, hu⟩ : ∃ u : Str, (if S3.validC x = true then x else []) = u := ⟨_, rfl⟩
  have hub : (if S3.validC x = true then ba x else ⟨#[]⟩) = ba u := by rw [← hu]; split <;> rfl
  obtain ⟨e0, he0⟩ : ∃ e0 : Int, (if S3.validC x = true then (0 : Int) else 10) = e0 := ⟨_, rfl⟩
  have hS : setW 0 x r = ((u, r.2), e0) := by rw [← hu, ← he0]; simp only [setW]; split <;> rfl
  rw [hub, he0] at cC
  rw [hS]
  obtain ⟨z, hz⟩ : ∃ z, ba x = z := ⟨_, rfl⟩
  rw [hz] at cC ⊢
  clear hub hu he0 hS
  have CC := hid cC
  have HX := hid hX
  have y0 := hX.c0
  have f0 := hX.free 0
  clear cC hX
  go_enter Tryd.func37, Tryd.ntmps37
  go_wp2_with fail
  refine (CC.out W).mono ?_
  rintro e w2 ⟨rfl, rfl⟩
  go_wp2
  go_ret
  exact ⟨rfl, HX.out.put0 _, put_grown (Below.refl _ _) R 0 _⟩
set_option maxHeartbeats 8000000 in
set_option maxRecDepth 100000 in
theorem wayField1 : Calls Tryd.prog 37 #[.pointer (some ⟨R, 0, none⟩), .int .i64 1, .string (ba x)] W (FieldOut8 1 x r R W) := by
  unfold FieldOut8
  have cC := fun W => tcode_any (ba x) W
  rw [lst_ba] at cC
  obtain ⟨u, hu⟩ : ∃ u : Str, (if S3.validC x = true then x else []) = u := ⟨_, rfl⟩
  have hub : (if S3.validC x = true then ba x else ⟨#[]⟩) = ba u := by rw [← hu]; split <;> rfl
  obtain ⟨e0, he0⟩ : ∃ e0 : Int, (if S3.validC x = true then (0 : Int) else 10) = e0 := ⟨_, rfl⟩
  have hS : setW 1 x r = ((r.1, u, r.2.2), e0) := by rw [← hu, ← he0]; simp only [setW]; split <;> rfl
  rw [hub, he0] at cC
  rw [hS]
  obtain ⟨z, hz⟩ : ∃ z, ba x = z := ⟨_, rfl⟩
  rw [hz] at cC ⊢
  clear hub hu he0 hS
  have CC := hid cC
  have HX := hid hX
  have y1 := hX.c1
  have f1 := hX.free 1
  clear cC hX
  go_enter Tryd.func37, Tryd.ntmps37
  go_wp2_with fail
  refine (CC.out W).mono ?_
  rintro e w2 ⟨rfl, rfl⟩
  go_wp2
  go_ret
  exact ⟨rfl, HX.out.put1 _, put_grown (Below.refl _ _) R 1 _⟩
set_option maxHeartbeats 8000000 in
set_option maxRecDepth 100000 in
theorem wayField2 (hE : Env8 W) : Calls Tryd.prog 37 #[.pointer (some ⟨R, 0, none⟩), .int .i64 2, .string (ba x)] W (FieldOut8 2 x r R W) := by
  unfold FieldOut8
  have cC := tslots_any (ba x) W hE
  rw [lst_ba] at cC
  obtain ⟨⟨u, e0⟩, hu⟩ : ∃ u, slotsM x = u := ⟨_, rfl⟩
  have hS : setW 2 x r = ((r.1, r.2.1, u), e0) := by show ((r.1, r.2.1, (slotsM x).1), (slotsM x).2) = _; rw [hu]
  rw [hu] at cC
  dsimp only at cC
  rw [hS]
  obtain ⟨z, hz⟩ : ∃ z, ba x = z := ⟨_, rfl⟩
  rw [hz] at cC ⊢
  clear hu hS
  have CC := hid cC
  have HX := hid hX
  clear cC hX
  go_enter Tryd.func37, Tryd.ntmps37
  go_wp2_with fail
  refine CC.out.mono ?_
  rintro e w2 ⟨rfl, hb⟩
  have hx2 := HX.out.next hb
  have y2 := hx2.c2
  have f2 := hx2.free 2
  have HX2 := hid hx2
  have HB := hid hb
  clear hx2 hb
  go_wp2
  go_ret
  exact ⟨rfl, HX2.out.put2 _, put_grown HB.out R 2 _⟩
theorem wayField_any (hE : Env8 W) (i : Nat) (hi : i < 3) : Calls Tryd.prog 37 #[.pointer (some ⟨R, 0, none⟩), .int .i64 (i : Int), .string (ba x)] W (FieldOut8 i x r R W) := by
  rcases (show i = 0 ∨ i = 1 ∨ i = 2 by omega) with rfl | rfl | rfl
  · exact wayField0 x r R W hX
  · exact wayField1 x r R W hX
  · exact wayField2 x r R W hX hE
end
end Go.Proofs.YtocmbifljkcmeaaDoor

set_option linter.unusedVariables false
namespace Go.Proofs.YtocmbifljkcmeaaDoor
open Go Go.Proofs Go.RowKit Go.Lib

/-! ### ways in memory -/
def wayVals (l : List WayD) : List Value := l.flatMap wayVs
theorem wayVals_app (a b : List WayD) : wayVals (a ++ b) = wayVals a ++ wayVals b := by simp [wayVals]
theorem wayVals_get : ∀ (l : List WayD) (j : Nat) (t : WayD), l[j]? = some t → ∀ (i : Nat) (v : Value), (wayVs t)[i]? = some v → (wayVals l)[j * 3 + i]? = some v
  | [], j, t, h, _, _, _ => by simp at h
  | a :: r, 0, t, h, i, v, hv => by
    simp at h
    subst h
    have hi : i < 3 := (List.getElem?_eq_some_iff.1 hv).1
    unfold wayVals
    rw [List.flatMap_cons, List.getElem?_append_left (by show _ < 3; omega)]
    simpa using hv
  | a :: r, j + 1, t, h, i, v, hv => by
    have := wayVals_get r j t (by simpa using h) i v hv
    unfold wayVals at this ⊢
    rw [List.flatMap_cons, List.getElem?_append_right (by show 3 ≤ _; omega)]
    show (List.flatMap wayVs r)[(j + 1) * 3 + i - 3]? = _
    rw [show (j + 1) * 3 + i - 3 = j * 3 + i by omega]
    exact this
theorem way_one (t : WayD) : ∀ u ∈ wayVs t, u.oneCell' = true := by
  intro u hu
  simp [wayVs] at hu
  rcases hu with rfl | rfl | rfl <;> rfl
/-- The slice at A holds the ways l, in a block with P. -/
def WaysIn (w : World) (P : Nat → Prop) (A : Option Addr) (l : List WayD) : Prop :=
  l = [] ∨ ∃ b off, A = some ⟨b, off, none⟩ ∧ P b ∧ ∀ (j : Nat) (t : WayD), l[j]? = some t → ∀ (i : Nat) (v : Value), (wayVs t)[i]? = some v → w.cell? ⟨b, off + j * 3 + i, none⟩ = some v
theorem WaysIn.kept {w w' : World} {P : Nat → Prop} {A : Option Addr} {l : List WayD} (h : WaysIn w P A l) (hk : ∀ b, P b → w'.heap[b]? = w.heap[b]?) : WaysIn w' P A l := by
  rcases h with h | ⟨b, off, hA, hP, hc⟩
  · exact .inl h
  · exact .inr ⟨b, off, hA, hP, fun j t hj i v hv => (World.cell?_of_block (w := w) (hk b hP)).trans (hc j t hj i v hv)⟩
theorem WaysIn.mono {w : World} {P P' : Nat → Prop} {A : Option Addr} {l : List WayD} (h : WaysIn w P A l) (hP : ∀ b, P b → P' b) : WaysIn w P' A l := by
  rcases h with h | ⟨b, off, hA, hb, hc⟩
  · exact .inl h
  · exact .inr ⟨b, off, hA, hP b hb, hc⟩
theorem WaysIn.below {w w' : World} {B : Nat} {A : Option Addr} {l : List WayD} (h : WaysIn w (fun b => b < B) A l) (hb : Below B w w') : WaysIn w' (fun b => b < B) A l := h.kept fun b hB => hb.block b hB
theorem WaysIn.at_ {w : World} {P : Nat → Prop} {A : Option Addr} {l : List WayD} (h : WaysIn w P A l) {k : Nat} (hk : k < l.length) :
    ∃ b off, A = some ⟨b, off, none⟩ ∧ P b ∧ w.cell? ⟨b, off + k * 3, none⟩ = some (.string (ba l[k].1)) ∧ w.cell? ⟨b, off + k * 3 + 1, none⟩ = some (.string (ba l[k].2.1)) ∧ w.cell? ⟨b, off + k * 3 + 2, none⟩ = some (.int .i64 l[k].2.2) := by
  rcases h with h | ⟨b, off, hA, hP, hc⟩
  · subst h; simp at hk
  · have hg := List.getElem?_eq_getElem hk
    exact ⟨b, off, hA, hP, hc k _ hg 0 _ rfl, hc k _ hg 1 _ rfl, hc k _ hg 2 _ rfl⟩
/-- A row of ways that the call owns. -/
def WayRow (w : World) (B : Nat) (T : TypeId) (v : Value) (l : List WayD) : Prop := w.ownsRow B T 3 v l.length (wayVals l)
theorem WayRow.waysIn {w : World} {B : Nat} {T : TypeId} {v : Value} {l : List WayD} (h : WayRow w B T v l) : ∃ A c, v = .slice A l.length c ∧ l.length ≤ c ∧ c ≤ 9223372036854775807 ∧ WaysIn w (fun b => B ≤ b ∧ b < w.heap.size) A l := by
  have h' := h
  rcases h.2 with ⟨hv, h0⟩ | ⟨g, cap, cur, hv, hB, hg, h1, h2, _⟩
  · have hl : l = [] := List.eq_nil_of_length_eq_zero h0
    subst hl
    exact ⟨none, 0, hv, Nat.le_refl _, by omega, .inl rfl⟩
  · refine ⟨_, cap, hv, h1, by unfold maxLen at h2; omega, .inr ⟨g, 0, rfl, ⟨hB, (Array.getElem?_eq_some_iff.1 hg).1⟩, fun j t hj i v' hv' => ?_⟩⟩
    have := World.ownsRow.cells h' (g := g) (by rw [hv]; rfl) (j * 3 + i) v' (wayVals_get l j t hj i v' hv')
    rw [Addr.add_lit] at this
    rw [← Nat.add_assoc] at this
    exact this
theorem infoWay : (Tryd.prog.info? 51).map (fun i => (i.zero, i.size, i.bytes)) = some (some (.agg #[.string ⟨#[]⟩, .string ⟨#[]⟩, .int .i64 0]), 3, 40) := by kernel_rfl
/-! ### rows that share a block -/
/-- A row whose slice is the beginning of another one's, which lies in the same block. -/
theorem row_begin {w w' : World} {B e z n n' : Nat} {v v' : Value} {xs ys : List Value} (h : w.ownsRow B e z v n xs) (h1 : w.ownsRow B e z v' n' (xs ++ ys)) (h2 : w'.ownsRow B e z v' n' (xs ++ ys)) (hz : 0 < z) (hv : v.ownBlock = v'.ownBlock) (hl : n ≤ n') : w'.ownsRow B e z v n xs := by
  refine ⟨h.1, ?_⟩
  rcases h.2 with h | ⟨g, cap, cur, rfl, hB, hg, hc1, hc2, hc3, hc4⟩
  · exact .inl h
  · right
    rcases h1.2 with ⟨rfl, _⟩ | ⟨g1, cap1, cur1, rfl, hB1, hg1, hd1, hd2, hd3, hd4⟩
    · simp [Value.ownBlock] at hv
    · simp only [Value.ownBlock, Option.some.injEq] at hv
      subst hv
      rw [hg] at hg1
      injection hg1 with hg1
      injection hg1 with hg1
      subst hg1
      have hcap : cap = cap1 := Nat.eq_of_mul_eq_mul_right hz (by omega)
      subst hcap
      rcases h2.2 with ⟨h, _⟩ | ⟨g2, cap2, cur2, h, hB2, hg2, he1, he2, he3, he4⟩
      · cases h
      · injection h with h _ h3
        injection h with h
        injection h with h
        subst h
        subst h3
        refine ⟨g, cap, cur2, rfl, hB, hg2, hc1, hc2, he3, ?_⟩
        have hle : n * z ≤ n' * z := Nat.mul_le_mul_right _ hl
        have := congrArg (List.take (n * z)) he4
        rw [List.take_take, Nat.min_eq_left hle] at this
        rw [this, List.take_append_of_le_length (by rw [h.1]; exact Nat.le_refl _)]
        exact List.take_of_length_le (by rw [h.1]; exact Nat.le_refl _)
/-- An append of which the run is known. -/
theorem wpList_append_known {P : Program} {w w2 : World} {ops : Array Oper} {rest : List Oper} {o : Oper} {a : Act} {Q : Exit → Act → World → Prop} (hgd : o.guard = none) (d s : Operand) (dT sT : TypeId)
    (ho : o.op = .call { callee := .builtin .append, args := #[d, s], argTypes := #[dT, sT] }) (vd vs v : Value) (hd : a.eval d = vd) (hs : a.eval s = vs)
    (hrun : (Builtin.append_ #[dT, sT] o.type #[vd, vs]).run P w = .ok v w2) (h : wpList P ops Q rest (a.put o.dst v) w2) : wpList P ops Q (o :: rest) a w := by
  refine wpList_plain hgd fun K hK => ?_
  unfold Oper.wp
  simp [execOp, ho, resolve, invoke, builtin, hd, hs, hrun, Result.andThen]
  exact hK _ _ h
end Go.Proofs.YtocmbifljkcmeaaDoor

set_option linter.unusedVariables false
namespace Go.Proofs.YtocmbifljkcmeaaDoor
open Go Go.Proofs Go.RowKit Go.Lib

theorem beq_ba (x y : Str) : ((ba x).toList == (ba y).toList) = decide (x = y) := by
  have e1 : (ba x).toList = x := Lib.toList_data _
  have e2 : (ba y).toList = y := Lib.toList_data _
  rw [e1, e2, Bool.eq_iff_iff]
  simp
set_option maxHeartbeats 8000000 in
set_option maxRecDepth 100000 in
theorem twin_any (r v : WayD) (w : World) : Calls Tryd.prog 56 #[wayV r, wayV v] w (Says (.bool (twinB r v)) w) := by
  unfold Says twinB wayV
  have h11 := beq_ba r.1 v.1
  have h22 := beq_ba r.2.1 v.2.1
  have h12 := beq_ba r.1 v.2.1
  have h21 := beq_ba r.2.1 v.1
  have hb1 : Below w.heap.size w ((w.alloc (.cells #[.string (ba r.1), .string (ba r.2.1), .int .i64 r.2.2] 51)).alloc (.cells #[.string (ba v.1), .string (ba v.2.1), .int .i64 v.2.2] 51)) := ((Below.refl _ w).alloc (Nat.le_refl _) _).alloc (by simp) _
  have k1 := Box3.new w 51 (.string (ba r.1)) (.string (ba r.2.1)) (.int .i64 r.2.2)
  have k2 := Box3.new (w.alloc (.cells #[.string (ba r.1), .string (ba r.2.1), .int .i64 r.2.2] 51)) 51 (.string (ba v.1)) (.string (ba v.2.1)) (.int .i64 v.2.2)
  have k3 := k1.next ((Below.refl _ _).alloc (Nat.le_refl _) (.cells #[.string (ba v.1), .string (ba v.2.1), .int .i64 v.2.2] 51))
  rw [show (w.alloc (.cells #[.string (ba r.1), .string (ba r.2.1), .int .i64 r.2.2] 51)).heap.size = w.heap.size + 1 by simp] at k2
  obtain ⟨X1, hX1⟩ : ∃ z, ba r.1 = z := ⟨_, rfl⟩
  obtain ⟨X2, hX2⟩ : ∃ z, ba r.2.1 = z := ⟨_, rfl⟩
  obtain ⟨Y1, hY1⟩ : ∃ z, ba v.1 = z := ⟨_, rfl⟩
  obtain ⟨Y2, hY2⟩ : ∃ z, ba v.2.1 = z := ⟨_, rfl⟩
  rw [hX1, hX2, hY1, hY2] at hb1 k2 k3 ⊢
  rw [hX1, hY1] at h11
  rw [hX2, hY2] at h22
  rw [hX1, hY2] at h12
  rw [hX2, hY1] at h21
  obtain ⟨b11, e11⟩ : ∃ b, decide (r.1 = v.1) = b := ⟨_, rfl⟩
  obtain ⟨b22, e22⟩ : ∃ b, decide (r.2.1 = v.2.1) = b := ⟨_, rfl⟩
  obtain ⟨b12, e12⟩ : ∃ b, decide (r.1 = v.2.1) = b := ⟨_, rfl⟩
  obtain ⟨b21, e21⟩ : ∃ b, decide (r.2.1 = v.1) = b := ⟨_, rfl⟩
  rw [e11] at h11 ⊢
  rw [e22] at h22 ⊢
  rw [e12] at h12 ⊢
  rw [e21] at h21 ⊢
  obtain ⟨n1, hn1⟩ : ∃ n, r.2.2 = n := ⟨_, rfl⟩
  obtain ⟨n2, hn2⟩ : ∃ n, v.2.2 = n := ⟨_, rfl⟩
  rw [hn1, hn2] at hb1 k2 k3 ⊢
  obtain ⟨W1, hW⟩ : ∃ W1, ((w.alloc (.cells #[.string X1, .string X2, .int .i64 n1] 51)).alloc (.cells #[.string Y1, .string Y2, .int .i64 n2] 51)) = W1 := ⟨_, rfl⟩
  rw [hW] at hb1 k2 k3
  have x0 := k3.c0
  have x1 := k3.c1
  have y0 := k2.c0
  have y1 := k2.c1
  have HB := hid hb1
  clear hX1 hX2 hY1 hY2 e11 e22 e12 e21 hn1 hn2 hb1 k1 k2 k3
  cases b11 <;> cases b22 <;> cases b12 <;> cases b21
  all_goals
    go_enter Tryd.func56, Tryd.ntmps56
    go_upto_region 1 with fail
    (try rw [hW])
    go_wp2
    go_ret
    exact ⟨rfl, HB.out⟩
theorem egTwin : ∀ args w, (callFunc 56 args).run Tryd.prog w = .ok (.enter 56 args) w := enters_of Tryd.func56 (by kernel_rfl) rfl
set_option maxHeartbeats 8000000 in
set_option maxRecDepth 100000 in
theorem twinIndex_any (A : Option Addr) (l : List WayD) (c : Nat) (r : WayD) (B : Nat) (w : World) (hB : B ≤ w.heap.size) (h : WaysIn w (fun b => b < B) A l) (h63 : l.length ≤ 9223372036854775807) :
    Calls Tryd.prog 64 #[.slice A l.length c, .func (.func 56) #[wayV r] #[]] w fun e w' => (∃ k : Int, e = .returned (.int .i64 k) ∧ -1 ≤ k ∧ decide (0 ≤ k) = dupW l r) ∧ Below w.heap.size w w' := by
  have eg := egTwin
  have HH := hid h
  have HW : Hid (wayV r = .agg #[.string (ba r.1), .string (ba r.2.1), .int .i64 r.2.2]) := hid rfl
  have cT := twin_any r
  unfold Says at cT
  have CT := hid cT
  obtain ⟨V, hV⟩ : ∃ V, wayV r = V := ⟨_, rfl⟩
  rw [hV] at CT ⊢
  clear h cT hV HW
  go_enter Tryd.func64, Tryd.ntmps64
  go_wp2
  go_loopw [5, 8] (fun _ iv wr => ∃ i : Nat, iv = .int .i64 (i : Int) ∧ i ≤ l.length ∧ Hid ((l.take i).any (twinB r) = false) ∧ Hid (Below w.heap.size w wr)) (fun _ iv _ => l.length - (RowKit.intOf iv).toNat)
  case atStart => exact ⟨0, rfl, Nat.zero_le _, hid rfl, hid (Below.refl _ _)⟩
  case round =>
    obtain ⟨i, rfl, hi, hN, hBw⟩ := hrel
    by_cases hlt : i < l.length
    · have hltz : (i : Int) < (l.length : Int) := by omega
      have d1 : decide (l.length ≤ i) = false := decide_eq_false (by omega)
      obtain ⟨b, o, rfl, hb, z0, z1, z2⟩ := HH.out.at_ hlt
      have kc : ∀ p : Nat, wr.cell? ⟨b, p, none⟩ = w.cell? ⟨b, p, none⟩ := fun p => hBw.out.cell (p := ⟨b, p, none⟩) (by show b < w.heap.size; omega)
      rw [← kc] at z0 z1 z2
      have hst : (l.take (i + 1)).any (twinB r) = twinB r l[i] := by
        rw [List.take_succ_eq_append_getElem hlt, List.any_append, hN.out]
        simp
      have hmem : twinB r l[i] = true → dupW l r = true := fun h => List.any_eq_true.2 ⟨_, List.getElem_mem hlt, h⟩
      obtain ⟨y, hy⟩ : ∃ y, l[i] = y := ⟨_, rfl⟩
      rw [hy] at z0 z1 z2 hst hmem
      have cC := CT.out y wr
      unfold wayV at cC
      obtain ⟨t, ht⟩ : ∃ t, twinB r y = t := ⟨_, rfl⟩
      rw [ht] at cC hst hmem
      have CC := hid cC
      have HST := hid hst
      have HMEM := hid hmem
      clear kc hy ht cC hst hmem
      go_wp2_with fail
      refine CC.out.mono ?_
      rintro e w2 ⟨rfl, hb2⟩
      have HB2 := hid (hBw.out.trans (hb2.mono hBw.out.size))
      clear hb2
      cases t with
      | true =>
        go_wp2
        go_ret
        exact ⟨⟨_, rfl, by omega, by rw [HMEM.out trivial]; exact decide_eq_true (by omega)⟩, HB2.out⟩
      | false =>
        go_wp2
        go_roundw
        case rel => exact ⟨i + 1, by go_num, by omega, HST, HB2⟩
        case measure => simp [RowKit.intOf]; omega
    · have hltz : ¬ (i : Int) < (l.length : Int) := by omega
      have hn := hN.out
      rw [List.take_of_length_le (by omega)] at hn
      go_wp2
      go_ret
      exact ⟨⟨-1, rfl, by omega, by unfold dupW; rw [hn]; rfl⟩, hBw.out⟩
set_option maxHeartbeats 2000000 in
theorem twinContains_any (A : Option Addr) (l : List WayD) (c : Nat) (r : WayD) (B : Nat) (w : World) (hB : B ≤ w.heap.size) (h : WaysIn w (fun b => b < B) A l) (h63 : l.length ≤ 9223372036854775807) :
    Calls Tryd.prog 55 #[.slice A l.length c, .func (.func 56) #[wayV r] #[]] w (Says (.bool (dupW l r)) w) := by
  have cI := twinIndex_any A l c r B w hB h h63
  unfold Says
  obtain ⟨V, hV⟩ : ∃ V, wayV r = V := ⟨_, rfl⟩
  obtain ⟨D, hD⟩ : ∃ D, dupW l r = D := ⟨_, rfl⟩
  rw [hV, hD] at cI
  rw [hV, hD]
  have CI := hid cI
  clear cI h hV hD
  go_enter Tryd.func55, Tryd.ntmps55
  go_wp2_with fail
  refine CI.out.mono ?_
  rintro e w' ⟨⟨k, rfl, hk, hd⟩, hb⟩
  have HB := hid hb
  have HD := hid hd
  clear hb hd
  go_wp2
  go_ret
  exact ⟨by rw [← HD.out]; rfl, HB.out⟩
end Go.Proofs.YtocmbifljkcmeaaDoor

set_option linter.unusedVariables false
namespace Go.Proofs.YtocmbifljkcmeaaDoor
open Go Go.Proofs Go.RowKit Go.Lib

theorem run_append_keep {P : Program} (w : World) (B : Nat) (t ty e : TypeId) (i : TypeInfo) (z : Value) (size bytes : Nat) (ht : P.underlying t = some (.slice e)) (hi : P.info? e = some i) (hz : i.zero = some z)
    (hsize : i.size = size) (hby : i.bytes = bytes) (hzs : z.cells.size = size) (hsz : 0 < size)
    (v : Value) (n : Nat) (xs : List Value) (hown : w.ownsRow B e size v n xs)
    (a : Addr) (m c : Nat) (news : List Value) (hl : news.length = m * size) (hnews : ∀ j u, news[j]? = some u → w.cell? (a.add j) = some u) (h1 : ∀ u ∈ news, u.oneCell' = true)
    (h63 : n + m ≤ maxLen) (hbytes : (n + m) * bytes ≤ 140737488355328) (hbase : B ≤ w.heap.size) :
    ∃ v' w', (Builtin.append_ #[t, t] ty #[v, .slice (some a) m c]).run P w = .ok v' w' ∧ w'.ownsRow B e size v' (n + m) (xs ++ news) ∧ w'.ownsRow B e size v n xs ∧ w.grownBy w' v.ownBlock ∧
      ((v'.ownBlock = v.ownBlock ∧ w.ownsRow B e size v n xs) ∨ ∃ k, v'.ownBlock = some k ∧ w.heap.size ≤ k) := by
  have hown' := hown
  rcases hown.2 with ⟨rfl, rfl⟩ | ⟨g, cap, cur, rfl, hB, hg, hc1, hc2, hc3, hc4⟩
  · obtain ⟨v', w', hr, h2, h3, _, h5⟩ := run_append_own_at (P := P) w B t ty e i z size bytes ht hi hz hsize hby hzs hsz (.slice none 0 0) 0 xs hown a m c news hl hnews h1 h63 hbytes hbase
    refine ⟨v', w', hr, h2, World.ownsRow.kept hown h3 (.inl rfl), h3, ?_⟩
    rcases h5 with h5 | h5
    · exact .inl ⟨h5, hown⟩
    · exact .inr ⟨_, h5, Nat.le_refl _⟩
  · by_cases hroom : n + m ≤ cap
    · obtain ⟨w', hr, h2, h3⟩ := run_append_own_spare (P := P) w B t ty e i size ht hi hsize g n cap xs hown a m c news hl hnews h1 hroom
      refine ⟨_, w', hr, h2, ?_, h3, .inl ⟨rfl, hown⟩⟩
      refine ⟨hown.1, .inr ?_⟩
      rcases h2.2 with ⟨h, _⟩ | ⟨g2, cap2, cur2, h, hB2, hg2, he1, he2, he3, he4⟩
      · cases h
      · injection h with h _ h3'
        injection h with h
        injection h with h
        subst h
        subst h3'
        refine ⟨g, cap, cur2, rfl, hB, hg2, hc1, hc2, he3, ?_⟩
        have hle : n * size ≤ (n + m) * size := Nat.mul_le_mul_right _ (by omega)
        have := congrArg (List.take (n * size)) he4
        rw [List.take_take, Nat.min_eq_left hle] at this
        rw [this, List.take_append_of_le_length (by rw [hown.1]; exact Nat.le_refl _)]
        exact List.take_of_length_le (by rw [hown.1]; exact Nat.le_refl _)
    · obtain ⟨v', w', hr, h2, h3⟩ := run_append_arg_grows (P := P) w t ty e i z size bytes ht hi hz hsize hby hzs hsz ⟨g, 0, none⟩ n cap xs (by rw [hown.1]) (fun j u hj => World.ownsRow.cells hown (g := g) rfl j u hj) a m c news hl hnews (by omega) h63 hbytes
      refine ⟨v', w', hr, ⟨h2.1, ?_⟩, World.ownsRow.kept hown h3 (.inr (by simp [Value.ownBlock])), ⟨h3.os, h3.tape, h3.output, h3.size, fun k hk hne => h3.block k hk (by simp)⟩, .inr ?_⟩
      · rcases h2.2 with h | ⟨g2, cap2, cur2, h, hB2, rest⟩
        · exact .inl h
        · exact .inr ⟨g2, cap2, cur2, h, by omega, rest⟩
      · rcases h2.2 with ⟨rfl, h0⟩ | ⟨g2, cap2, cur2, rfl, hB2, rest⟩
        · omega
        · exact ⟨g2, rfl, hB2⟩
/-- What including leaves behind. -/
def IncOut (B : Nat) (v : Value) (l : List Str) (s : Str) (w : World) (e : Ending) (w' : World) : Prop :=
  ∃ v', e = .returned v' ∧ S3.StrRow w' B v' (inc l s) ∧ S3.StrRow w' B v l ∧ w.grownBy w' v.ownBlock ∧ (v'.ownBlock = v.ownBlock ∨ ∃ k, v'.ownBlock = some k ∧ w.heap.size ≤ k)
theorem one_str_new (w : World) (x : ByteArray) : ∀ (j : Nat) (u : Value), ([Value.string x] : List Value)[j]? = some u → (w.alloc (.cells #[.string x] 9)).cell? ((⟨w.heap.size, 0, none⟩ : Addr).add j) = some u := by
  intro j u h
  rw [Addr.add_lit]
  match j, h with
  | 0, h => rw [Nat.zero_add, Lib.cell_of_heap (heap_alloc_new w _)]; exact h
  | j + 1, h => simp at h
set_option maxHeartbeats 4000000 in
set_option maxRecDepth 100000 in
theorem including_any (B : Nat) (v : Value) (l : List Str) (x : ByteArray) (w : World) (hB : B ≤ w.heap.size) (h : S3.StrRow w B v l) (hl : l.length ≤ 1000) :
    Calls Tryd.prog 54 #[v, .string x] w (IncOut B v l (lst x) w) := by
  obtain ⟨iI, hiI, hzI, hsI, hbI⟩ := info_parts S3.infoStr
  obtain ⟨A, c, rfl, _, _, hin⟩ := h.strsIn
  have cC := contains_any A l c x _ w hin (by omega)
  unfold IncOut inc
  have HH := hid h
  have hrow : w.ownsRow B 9 1 (.slice A l.length c) l.length (S3.strVals l) := h
  clear h hin
  by_cases hm : lst x ∈ l
  · rw [decide_eq_true hm] at cC
    rw [if_pos hm]
    have CC := hid cC
    clear cC hm hrow
    go_enter Tryd.func54, Tryd.ntmps54
    go_wp2_with fail
    refine CC.out.mono ?_
    rintro e w' ⟨rfl, rfl⟩
    go_wp2
    go_ret
    exact ⟨_, rfl, HH.out, HH.out, ⟨rfl, rfl, rfl, Nat.le_refl _, fun _ _ _ => rfl⟩, .inl rfl⟩
  · rw [decide_eq_false hm] at cC
    rw [if_neg hm]
    have CC := hid cC
    have hbw : Below w.heap.size w (w.alloc (.cells #[.string x] 9)) := (Below.refl _ w).alloc (Nat.le_refl _) _
    obtain ⟨v', w', hrun, h2, h3, h4, h5⟩ := run_append_keep (P := Tryd.prog) (w.alloc (.cells #[.string x] 9)) B 22 22 9 iI (.string ⟨#[]⟩) 1 16 Tryd.underlying22 hiI hzI hsI hbI rfl (by omega) (.slice A l.length c) l.length (S3.strVals l) (World.ownsRow.alloc hrow _) ⟨w.heap.size, 0, none⟩ 1 1 [.string x] rfl (one_str_new w x) (by intro u hu; rw [List.mem_singleton] at hu; subst hu; rfl) (by unfold maxLen; omega) (by omega) (by simp; omega)
    have hv : S3.strVals (l ++ [lst x]) = S3.strVals l ++ [.string x] := by
      unfold S3.strVals
      rw [List.map_append]
      congr 1
    have hg : w.grownBy w' (Value.slice A l.length c).ownBlock := ⟨h4.os, h4.tape, h4.output, Nat.le_trans (by simp) h4.size, fun k hk hne => (h4.block k (by simp; omega) hne).trans (heap_alloc_old _ _ hk)⟩
    have H2 : Hid (S3.StrRow w' B v' (l ++ [lst x])) := hid (by unfold S3.StrRow; rw [hv, List.length_append]; exact h2)
    have H3 : Hid (S3.StrRow w' B (.slice A l.length c) l) := hid h3
    have HG := hid hg
    have H5 : Hid (v'.ownBlock = (Value.slice A l.length c).ownBlock ∨ ∃ k, v'.ownBlock = some k ∧ w.heap.size ≤ k) := hid (by
      rcases h5 with ⟨h5, _⟩ | ⟨k, h5, h6⟩
      · exact .inl h5
      · exact .inr ⟨k, h5, by simp at h6; omega⟩)
    clear cC hm hrow h2 h3 h4 h5 hg hv hbw
    go_enter Tryd.func54, Tryd.ntmps54
    go_wp2_with fail
    refine CC.out.mono ?_
    rintro e w1 ⟨rfl, rfl⟩
    go_wp2_with (at_builtin; refine wpList_append_known rfl _ _ 22 22 rfl _ _ _ rfl rfl hrun ?_)
    go_wp2
    go_ret
    exact ⟨_, rfl, H2.out, H3.out, HG.out, H5.out⟩
end Go.Proofs.YtocmbifljkcmeaaDoor

