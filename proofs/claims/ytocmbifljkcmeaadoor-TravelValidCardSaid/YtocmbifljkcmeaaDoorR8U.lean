/-
  A table without known ways by the specification: unknown. Conditions: at most 8 buildings.
-/
import Derived.Test.YtocmbifljkcmeaaDoorR8O
import Derived.Test.YtocmbifljkcmeaaDoorR8R
import Derived.OwnWalk
set_option linter.unusedVariables false
namespace Go.Proofs.YtocmbifljkcmeaaDoor
open Go Go.Proofs Go.RowKit Go.Lib

/-- The boxes of a table that is made: the result's, the table's own. -/
structure UK (w0 : World) (lv v : Value) (w : World) : Prop where
  r : Box2 w w0.heap.size 25 (.slice none 0 0) (.slice none 0 0)
  t : Box2 w (w0.heap.size + 1) 25 lv v
  b : Below w0.heap.size w0 w
section
variable {w0 w w' : World} {lv v : Value}
theorem UK.next (h : UK w0 lv v w) (k : Below w.heap.size w w') : UK w0 lv v w' := ⟨h.r.next k, h.t.next k, h.b.trans (k.mono h.b.size)⟩
theorem UK.lt (h : UK w0 lv v w) : w0.heap.size + 2 ≤ w.heap.size := h.t.lt
theorem UK.far (h : UK w0 lv v w) (k : Below (w0.heap.size + 2) w w') : UK w0 lv v w' := ⟨h.r.kept (k.block _ (by omega)), h.t.kept (k.block _ (by omega)), h.b.trans (k.mono (by omega))⟩
theorem UK.put (h : UK w0 lv v w) (u : Value) : UK w0 lv u (w.setCell ⟨w0.heap.size + 1, 1, none⟩ u) :=
  ⟨h.r.kept (heap_setCell_other _ _ _ _ (by show w0.heap.size ≠ w0.heap.size + 1; omega)), h.t.set1 u, h.b.setCell (p := ⟨w0.heap.size + 1, 1, none⟩) (by show w0.heap.size ≤ w0.heap.size + 1; omega) u⟩
end
theorem own_block {w w' : World} {B e z n : Nat} {v : Value} {xs : List Value} (h : w.ownsRow B e z v n xs) (hk : ∀ g, v.ownBlock = some g → w'.heap[g]? = w.heap[g]?) : w'.ownsRow B e z v n xs := by
  refine ⟨h.1, ?_⟩
  rcases h.2 with h2 | ⟨g, cap, cur, rfl, hb, hg, rest⟩
  · exact .inl h2
  · exact .inr ⟨g, cap, cur, rfl, hb, (hk g rfl).trans hg, rest⟩
theorem TB.kept {w w' : World} {B m n : Nat} {v : Value} {rb rc : Nat → Nat} {F : Fun2} (h : TB w B v m n rb rc F) (hk : ∀ b, B ≤ b → w'.heap[b]? = w.heap[b]?) (hs : w.heap.size ≤ w'.heap.size) : TB w' B v m n rb rc F :=
  ⟨own_block h.own (fun g hg => hk g (World.ownsRow.lt h.own g hg).1), fun i hi k hk' => (World.cell?_of_block (w := w) (hk _ (h.lo i hi))).trans (h.ent i hi k hk'), fun i hi k hk' => (World.frozen?_of_block (w := w) (hk _ (h.lo i hi))).trans (h.fr i hi k hk'), h.inj, h.ne, h.lo, fun i hi => Nat.lt_of_lt_of_le (h.hi i hi) hs, h.cap⟩
theorem results_c1 {fn : Func} {p : Tmp} {A : TypeId} (h : fn.results = #[.cell p A]) (tmps : Array Value) (P : Program) (w : World) (a : Addr) (va : Value)
    (ha : tmps.getD p undef = .pointer (some a)) (hla : (loadVar A a).run P w = .ok va w) : (results fn tmps).run P w = .ok va w := by
  rw [Array.getD_eq_getD_getElem?] at ha
  simp only [results, h]
  simp [ha, hla, asAddr]
/-- A block of the call's own with at least n cells. -/
def Kd (w : World) (g n : Nat) : Prop := ∃ c T, w.heap[g]? = some (.cells c T (0, 0)) ∧ n ≤ c.size
theorem Kd.kept {w w' : World} {g n : Nat} (h : Kd w g n) (hk : w'.heap[g]? = w.heap[g]?) : Kd w' g n := by
  obtain ⟨c, T, h1, h2⟩ := h
  exact ⟨c, T, hk.trans h1, h2⟩
theorem Kd.set {w : World} {g n : Nat} (h : Kd w g n) (k : Nat) (v : Value) : Kd (w.setCell ⟨g, k, none⟩ v) g n := by
  obtain ⟨c, T, h1, h2⟩ := h
  exact ⟨_, T, heap_setCell_same w g k c T v h1, by simpa using h2⟩
theorem Kd.ofRow {w : World} {B e g n cap : Nat} {xs : List Value} (h : w.ownsRow B e 1 (.slice (some ⟨g, 0, none⟩) n cap) n xs) : Kd w g n := by
  rcases h.2 with ⟨h, _⟩ | ⟨g', cap', cur, h1, _, h3, h4, _, h6, _⟩
  · cases h
  · injection h1 with h1 _ h5
    injection h1 with h1
    injection h1 with h1
    subst h1
    exact ⟨cur, e, h3, by omega⟩
/-- What unknown leaves behind. -/
def UnkOut (n : Nat) (lv : Value) (w : World) (e : Ending) (w' : World) : Prop :=
  (∃ v, e = .returned (.agg #[lv, v]) ∧ ∃ rb rc : Nat → Nat, TB w' (w.heap.size + 2) v n n rb rc unkF ∧ ∀ i, i < n → Kd w' (rb i) n) ∧ Below w.heap.size w w'
theorem made_zero (n : Nat) : (madeCells #[Value.int .i64 0] n).toList = intVals (List.replicate n 0) := by
  show (madeCells #[Value.int .i64 0] n).toList = _
  rw [toList_madeCells_one]
  unfold intVals
  rw [List.map_replicate]
/-- The row that is being filled. -/
def rowF (i k : Nat) : Nat → Int := fun j => if j < k ∧ j ≠ i then -1 else 0
set_option maxHeartbeats 16000000 in
set_option maxRecDepth 100000 in
theorem unknown_any (A : Option Addr) (n c : Nat) (w : World) (hn : n ≤ 1000000) :
    Calls Tryd.prog 26 #[.slice A n c] w (UnkOut n (.slice A n c) w) := by
  obtain ⟨iI, hiI, hzI, hsI, hbI⟩ := info_parts infoInts
  obtain ⟨iN, hiN, hzN, hsN, hbN⟩ := info_parts infoInt
  have hk : UK w (.slice A n c) (.slice none 0 0) ((w.alloc (.cells #[.slice none 0 0, .slice none 0 0] 25)).alloc (.cells #[.slice A n c, .slice none 0 0] 25)) := by
    have h1 := Box2.new w 25 (.slice none 0 0) (.slice none 0 0)
    have hb := (Below.refl w.heap.size w).alloc (Nat.le_refl _) (.cells #[.slice none 0 0, .slice none 0 0] 25)
    have hs : (w.alloc (.cells #[.slice none 0 0, .slice none 0 0] 25)).heap.size = w.heap.size + 1 := by simp
    generalize w.alloc (.cells #[.slice none 0 0, .slice none 0 0] 25) = w1 at h1 hb hs ⊢
    have h2 := Box2.new w1 25 (.slice A n c) (.slice none 0 0)
    rw [hs] at h2
    exact ⟨h1.next ((Below.refl _ w1).alloc (Nat.le_refl _) _), h2, hb.alloc (by omega) _⟩
  have HK := hid hk
  clear hk
  unfold UnkOut
  go_enter Tryd.func26, Tryd.ntmps26
  go_wp2
  generalize World.alloc _ _ = wz at HK ⊢
  go_loopw [4, 5, 6] (fun iv _ _ wr => ∃ (i : Nat) (v : Value) (rb rc : Nat → Nat), iv = .int .i64 (i : Int) ∧ i ≤ n ∧ Hid (UK w (.slice A n c) v wr) ∧ Hid (TB wr (w.heap.size + 2) v i n rb rc unkF) ∧ Hid (∀ j, j < i → Kd wr (rb j) n)) (fun iv _ _ _ => n - (RowKit.intOf iv).toNat)
  case atStart => exact ⟨0, _, _, _, rfl, Nat.zero_le _, HK, hid (TB.nil _ _ _ _), hid (fun j hj => absurd hj (by omega))⟩
  case round =>
    obtain ⟨wq, rfl⟩ : ∃ x, x = wr := ⟨_, rfl⟩
    obtain ⟨i, v, rb, rc, rfl, hi, HU, HT, HD⟩ := hrel
    obtain ⟨At, ct, hvt⟩ := HT.out.slice
    subst hvt
    by_cases hlt : i < n
    · have hltz : (i : Int) < (n : Int) := by omega
      have HB8 : Hid (iN.bytes * n ≤ 281474976710656) := hid (by rw [hbN]; omega)
      have HML : Hid (n ≤ maxLen) := hid (by unfold maxLen; omega)
      go_wp2_with (at_make; refine wpList_make_full _ rfl _ _ 48 rfl wq.heap.size 3 iN (.int .i64 0) 1 Tryd.underlying48 hiN hzN hsN .i64 .i64 (n : Int) (n : Int) n rfl rfl rfl rfl HB8.out HML.out (Nat.le_refl _) ?_)
      intro w2 hown hgrow
      have hrow0 : IntRow w2 wq.heap.size (.slice (some ⟨wq.heap.size, 0, none⟩) n n) (List.replicate n 0) := by
        unfold IntRow
        rw [List.length_replicate, ← made_zero]
        exact hown
      have hbw : Below wq.heap.size wq w2 := ⟨hgrow.os, hgrow.tape, hgrow.output, hgrow.size, fun k hk => hgrow.block k hk (by simp)⟩
      have hent := fun j (hj : j < n) => IntRow.ent hrow0 j (by rw [List.length_replicate]; exact hj)
      have HROW : Hid (∀ j, j < n → w2.cell? ⟨wq.heap.size, j, none⟩ = some (.int .i64 (rowF i 0 j)) ∧ w2.frozen? ⟨wq.heap.size, j, none⟩ = false) := hid (fun j hj => by
        obtain ⟨h1, h2, _, _⟩ := hent j hj
        refine ⟨?_, h2⟩
        rw [h1]
        unfold rowF
        rw [if_neg (by omega)]
        congr 2
        rw [getD_elem (by rw [List.length_replicate]; exact hj)]
        simp)
      have HKG : Hid (Kd w2 wq.heap.size n) := hid (Kd.ofRow (B := wq.heap.size) (e := 3) (by simpa using hown))
      have HGL : Hid (wq.heap.size < w2.heap.size) := hid (hent i hlt).2.2.2
      have HBW := hid hbw
      clear hown hgrow hrow0 hent hbw
      go_wp2
      go_loopw [6] (fun kv wx => ∃ k : Nat, kv = .int .i64 (k : Int) ∧ k ≤ n ∧ Hid (∀ j, j < n → wx.cell? ⟨wq.heap.size, j, none⟩ = some (.int .i64 (rowF i k j)) ∧ wx.frozen? ⟨wq.heap.size, j, none⟩ = false) ∧ Hid (Below wq.heap.size wq wx) ∧ Hid (wq.heap.size < wx.heap.size) ∧ Hid (Kd wx wq.heap.size n)) (fun kv _ => n - (RowKit.intOf kv).toNat)
      case atStart => exact ⟨0, rfl, Nat.zero_le _, HROW, HBW, HGL, HKG⟩
      case round =>
        clear HROW HBW HGL HKG
        obtain ⟨k, rfl, hk, HROW, HBW, HGL, HKG⟩ := hrel
        by_cases hlt2 : k < n
        · have hltz2 : (k : Int) < (n : Int) := by omega
          by_cases hki : k = i
          · have hb : ((k : Int) != (i : Int)) = false := by simp [hki]
            have HROW2 : Hid (∀ j, j < n → wr.cell? ⟨wq.heap.size, j, none⟩ = some (.int .i64 (rowF i (k + 1) j)) ∧ wr.frozen? ⟨wq.heap.size, j, none⟩ = false) := hid (fun j hj => by
              obtain ⟨h1, h2⟩ := HROW.out j hj
              refine ⟨?_, h2⟩
              rw [h1]
              unfold rowF
              by_cases hjk : j = k
              · rw [if_neg (by omega), if_neg (by omega)]
              · by_cases hj2 : j < k ∧ j ≠ i
                · rw [if_pos hj2, if_pos (by omega)]
                · rw [if_neg hj2, if_neg (by omega)])
            clear HROW
            go_wp2
            go_roundw
            case rel => exact ⟨k + 1, by go_num, by omega, HROW2, HBW, HGL, HKG⟩
            case measure => simp [RowKit.intOf]; omega
          · have hb : ((k : Int) != (i : Int)) = true := by simp; omega
            have hd : decide (n ≤ k) = false := decide_eq_false (by omega)
            obtain ⟨z1, z2⟩ := HROW.out k hlt2
            obtain ⟨g, hg⟩ : ∃ g, wq.heap.size = g := ⟨_, rfl⟩
            have HROW2 : Hid (∀ j, j < n → (wr.setCell ⟨g, k, none⟩ (.int .i64 (-1))).cell? ⟨g, j, none⟩ = some (.int .i64 (rowF i (k + 1) j)) ∧ (wr.setCell ⟨g, k, none⟩ (.int .i64 (-1))).frozen? ⟨g, j, none⟩ = false) := hid (fun j hj => by
              obtain ⟨h1, h2⟩ := HROW.out j hj
              rw [hg] at h1 h2
              rw [World.frozen?_setCell]
              refine ⟨?_, h2⟩
              unfold rowF
              by_cases hjk : j = k
              · subst hjk
                rw [if_pos (by omega), World.cell?_setCell_same _ _ _ h1]
              · rw [World.cell?_setCell_other (h := fun e => hjk (congrArg Addr.off e).symm), h1]
                unfold rowF
                by_cases hj2 : j < k ∧ j ≠ i
                · rw [if_pos hj2, if_pos (by omega)]
                · rw [if_neg hj2, if_neg (by omega)])
            have HB2 : Hid (Below g wq (wr.setCell ⟨g, k, none⟩ (.int .i64 (-1)))) := hid (by have := HBW.out; rw [hg] at this; exact this.setCell (p := ⟨g, k, none⟩) (Nat.le_refl _) _)
            have HG2 : Hid (g < (wr.setCell ⟨g, k, none⟩ (.int .i64 (-1))).heap.size) := hid (by have := HGL.out; rw [hg] at this; simpa using this)
            have HK2 : Hid (Kd (wr.setCell ⟨g, k, none⟩ (.int .i64 (-1))) g n) := hid (by have := HKG.out; rw [hg] at this; exact this.set _ _)
            rw [hg] at z1 z2 ⊢
            clear HROW HBW HGL HKG hg
            go_wp2
            go_roundw
            case rel => exact ⟨k + 1, by go_num, by omega, HROW2, HB2, HG2, HK2⟩
            case measure => simp [RowKit.intOf]; omega
        · have hltz2 : ¬ (k : Int) < (n : Int) := by omega
          obtain rfl : k = n := by omega
          have hu := HU.out.next HBW.out
          have r1 := hu.t.c1
          have f1 := hu.t.free 1
          have HU2 := hid hu
          have HT2 := hid (HT.out.next HBW.out).own
          have hlw := HU.out.lt
          have HC3 : Hid (i + 1 ≤ maxLen) := hid (by unfold maxLen; omega)
          have HC4 : Hid ((i + 1) * 24 ≤ 140737488355328) := hid (by omega)
          have HC5 : Hid (∀ o : Obj, w.heap.size + 2 ≤ (wr.alloc o).heap.size) := hid (fun o => by have := HBW.out.size; simp; omega)
          have HG : Hid (∃ g, wq.heap.size = g) := hid ⟨_, rfl⟩
          obtain ⟨g, hg⟩ := HG.out
          have HGE := hid hg
          rw [hg]
          clear hu hlw HG hg
          go_wp2_with (at_builtin; refine wpList_append_own_at _ rfl _ _ 23 rfl (w.heap.size + 2) 48 iI (.slice none 0 0) 1 24 Tryd.underlying23 hiI hzI hsI hbI rfl (by decide) _ i _ rfl (World.ownsRow.alloc HT2.out _) ⟨wr.heap.size, 0, none⟩ 1 1 [.slice (some ⟨g, 0, none⟩) k k] rfl rfl (one_new _ _ _) (one_slice _ _ _) HC3.out HC4.out (HC5.out _) ?_)
          intro v' w4 hown' hgrow _ hat
          have hTB := TB.snoc HT.out HU.out.lt (by rw [HGE.out]; exact Nat.le_refl _) HBW.out (by rw [← HGE.out]; exact HGL.out) (fun j hj => by
              rw [← HGE.out]
              rw [(HROW.out j hj).1]
              unfold rowF unkF
              by_cases hji : i = j
              · rw [if_neg (by omega), if_pos hji]
              · rw [if_pos (by omega), if_neg hji]) (fun j hj => by rw [← HGE.out]; exact (HROW.out j hj).2) ⟨Nat.le_refl _, by omega⟩ ((Below.refl wr.heap.size wr).alloc (Nat.le_refl _) (.cells #[.slice (some ⟨g, 0, none⟩) k k] 48)) hown' hgrow (hat.imp id (fun h => h.trans (by simp)))
          have hsu : UK w (.slice A k c) (.slice At i ct) w4 := by
            have hb0 := (HU2.out.next ((Below.refl wr.heap.size wr).alloc (Nat.le_refl _) (.cells #[.slice (some ⟨g, 0, none⟩) k k] 48)))
            exact hb0.far ((Below.refl _ _).grown hgrow hb0.lt (fun q hq => (World.ownsRow.lt HT2.out q hq).1))
          have f4 := hsu.t.free 1
          have r4 := hsu.t.c1
          have HD2 : Hid (∀ j, j < i + 1 → Kd (w4.setCell ⟨w.heap.size + 1, 1, none⟩ v') ((fun j => if j = i then g else rb j) j) k) := hid (fun j hj => by
            have hb3 : ∀ b, b < wr.heap.size → (Value.slice At i ct).ownBlock ≠ some b → b ≠ w.heap.size + 1 → (w4.setCell ⟨w.heap.size + 1, 1, none⟩ v').heap[b]? = wr.heap[b]? := fun b hb hne hn => by
              rw [heap_setCell_other _ _ _ _ (by show b ≠ w.heap.size + 1; omega)]
              exact (hgrow.block b (by simp; omega) (fun e => hne e.symm)).trans (heap_alloc_old _ _ hb)
            have hlw := HU.out.lt
            have hgl := HGL.out
            rw [HGE.out] at hgl
            have hge := HGE.out
            dsimp only
            by_cases hji : j = i
            · rw [if_pos hji]
              have hkg := HKG.out
              rw [HGE.out] at hkg
              refine hkg.kept (hb3 g hgl (fun e => ?_) (by omega))
              have := (World.ownsRow.lt HT.out.own g e).2
              omega
            · rw [if_neg hji]
              have hlo := HT.out.lo j (by omega)
              have hhi := HT.out.hi j (by omega)
              refine (HD.out j (by omega)).kept ((hb3 (rb j) (by omega) (HT.out.ne j (by omega)) (by omega)).trans ?_)
              exact HBW.out.block (rb j) (by rw [HGE.out]; omega))
          have HTB := hid (TB.kept (w' := w4.setCell ⟨w.heap.size + 1, 1, none⟩ v') hTB (fun b hb => heap_setCell_other _ _ _ _ (by show b ≠ w.heap.size + 1; omega)) (by simp))
          have HSU := hid (hsu.put v')
          obtain ⟨A4, c4, hv4⟩ := hTB.slice
          subst hv4
          clear hTB hsu hown' hgrow hat r1 f1
          go_wp2_with fail
          go_roundw
          case rel => exact ⟨i + 1, _, _, _, by go_num, by omega, HSU, HTB, HD2⟩
          case measure => simp [RowKit.intOf]; omega
    · have hltz : ¬ (i : Int) < (n : Int) := by omega
      obtain rfl : i = n := by omega
      have c0 := HU.out.t.c0
      have c1 := HU.out.t.c1
      have d0 := HU.out.r.c0
      have d1 := HU.out.r.c1
      have f0 := HU.out.r.free 0
      have f1 := HU.out.r.free 1
      go_wp2
      have hz := HU.out.r.set (.slice A i c) (.slice At i ct)
      have hT := TB.kept (w' := (wq.setCell ⟨w.heap.size, 0, none⟩ (.slice A i c)).setCell ⟨w.heap.size, 1, none⟩ (.slice At i ct)) HT.out (fun b hb => by rw [heap_setCell_other _ _ _ _ (by show b ≠ w.heap.size; omega), heap_setCell_other _ _ _ _ (by show b ≠ w.heap.size; omega)]) (by simp)
      have hD : ∀ j, j < i → Kd ((wq.setCell ⟨w.heap.size, 0, none⟩ (.slice A i c)).setCell ⟨w.heap.size, 1, none⟩ (.slice At i ct)) (rb j) i := fun j hj => (HD.out j hj).kept (by
        have := HT.out.lo j hj
        rw [heap_setCell_other _ _ _ _ (by show rb j ≠ w.heap.size; omega), heap_setCell_other _ _ _ _ (by show rb j ≠ w.heap.size; omega)])
      exact bodyPost_ret (v := .agg #[.slice A i c, .slice At i ct]) (results_c1 rfl _ _ _ ⟨w.heap.size, 0, none⟩ _ rfl (loadTrav hz.c0 hz.c1)) rfl ⟨⟨_, rfl, rb, ⟨rc, hT⟩, hD⟩, (HU.out.b.setCell (p := ⟨w.heap.size, 0, none⟩) (Nat.le_refl _) _).setCell (p := ⟨w.heap.size, 1, none⟩) (Nat.le_refl _) _⟩
end Go.Proofs.YtocmbifljkcmeaaDoor
