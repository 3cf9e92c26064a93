/-
  Tables that a call makes: rows in blocks of their own; slices.Clone, cloneRows of travel. Conditions: what is copied lies in memory.
-/
import Derived.Test.YtocmbifljkcmeaaDoorTN01
import Derived.Test.YtocmbifljkcmeaaDoorTN02
import Derived.Test.YtocmbifljkcmeaaDoorTN04
import Derived.Test.YtocmbifljkcmeaaDoorProg
import Derived.WalkKit
import Derived.WalkSpells
import Derived.WalkLawsBesides
import Derived.Lib.Hide
import Derived.Deep.QuietTactic
import Derived.BigQuiet
import Derived.Laws.Rows
import Derived.OwnWalk
import Derived.Lib.BufferWrite
import Derived.Lib.UnsafeStr
import Derived.Laws.IdiomStrings
import Derived.Laws.BytesArg
import Derived.Laws.BytesString
import Derived.Laws.OwnMore
import Derived.Lib.IndexLaws
import Derived.Lib.ItoaNum
import Derived.Lib.Atoi
import Derived.Lib.Bytealg
import Derived.Handy
import Derived.Laws.ResultCell
import Derived.RegionTactic
import Derived.Deep.DeepCutAuto
import Derived.Deep.CutBlock
import Derived.Deep.RegionHeld3
import Derived.Deep.RegionLaw
import Derived.Deep.RegionWith
import Derived.Deep.AppendLies
import Derived.Maps.AppendAt
import Derived.StillTailTactics
import Derived.Shelf.Abstract
import Derived.Lib.SliceRun
import Derived.RangeFuncBox
set_option linter.unusedVariables false
namespace Go.Proofs.YtocmbifljkcmeaaDoor
open Go Go.Proofs Go.RowKit Go.Lib

/-- Two cells of a block of the call's own. -/
structure Box2 (w : World) (B : Nat) (T : TypeId) (v0 v1 : Value) : Prop where
  h : w.heap[B]? = some (.cells #[v0, v1] T (0, 0))
section
variable {w w' : World} {B T : Nat} {v0 v1 : Value}
theorem Box2.new (w : World) (T : TypeId) (v0 v1 : Value) : Box2 (w.alloc (.cells #[v0, v1] T)) w.heap.size T v0 v1 := ⟨heap_alloc_new w _⟩
theorem Box2.lt (h : Box2 w B T v0 v1) : B < w.heap.size := (Array.getElem?_eq_some_iff.1 h.h).1
theorem Box2.kept (h : Box2 w B T v0 v1) (hk : w'.heap[B]? = w.heap[B]?) : Box2 w' B T v0 v1 := ⟨hk.trans h.h⟩
theorem Box2.next (h : Box2 w B T v0 v1) (k : Below w.heap.size w w') : Box2 w' B T v0 v1 := h.kept (k.block B h.lt)
theorem Box2.c0 (h : Box2 w B T v0 v1) : w.cell? ⟨B, 0, none⟩ = some v0 := by rw [Lib.cell_of_heap h.h]; rfl
theorem Box2.c1 (h : Box2 w B T v0 v1) : w.cell? ⟨B, 1, none⟩ = some v1 := by rw [Lib.cell_of_heap h.h]; rfl
theorem Box2.free (h : Box2 w B T v0 v1) (j : Nat) : w.frozen? ⟨B, j, none⟩ = false := by simp [World.frozen?, h.h]
theorem Box2.set (h : Box2 w B T v0 v1) (u0 u1 : Value) : Box2 ((w.setCell ⟨B, 0, none⟩ u0).setCell ⟨B, 1, none⟩ u1) B T u0 u1 := by
  have h0 := heap_setCell_same w B 0 _ _ u0 h.h
  have h1 := heap_setCell_same _ B 1 _ _ u1 h0
  exact ⟨by rw [h1]; rfl⟩
theorem Box2.set1 (h : Box2 w B T v0 v1) (u1 : Value) : Box2 (w.setCell ⟨B, 1, none⟩ u1) B T v0 u1 := by
  have h1 := heap_setCell_same w B 1 _ _ u1 h.h
  exact ⟨by rw [h1]; rfl⟩
end
/-- What a row of ints of the call's own holds. -/
theorem IntRow.ent {w : World} {B g n cap : Nat} {r : List Int} (h : IntRow w B (.slice (some ⟨g, 0, none⟩) n cap) r) (k : Nat) (hk : k < r.length) : w.cell? ⟨g, k, none⟩ = some (.int .i64 (r.getD k 0)) ∧ w.frozen? ⟨g, k, none⟩ = false ∧ B ≤ g ∧ g < w.heap.size := by
  have h1 := World.ownsRow.cells h (g := g) rfl k (.int .i64 (r.getD k 0)) (by unfold intVals; rw [List.getElem?_map, List.getElem?_eq_getElem hk, getD_elem hk]; rfl)
  rw [Addr.add_lit, Nat.zero_add] at h1
  obtain ⟨c, hc⟩ := row_kind h g rfl
  have h2 := World.ownsRow.lt h g rfl
  exact ⟨h1, by simp [World.frozen?, hc], h2.1, h2.2⟩
/-- A table of n by n entries in blocks of the call's own: the slice of rows lies in block O, row i in block rb i. -/
structure TO (w : World) (B O n : Nat) (rb rc : Nat → Nat) (F : Fun2) : Prop where
  row : ∀ i, i < n → w.cell? ⟨O, i, none⟩ = some (.slice (some ⟨rb i, 0, none⟩) n (rc i))
  ent : ∀ i, i < n → ∀ k, k < n → w.cell? ⟨rb i, k, none⟩ = some (.int .i64 (F i k))
  fr : ∀ i, i < n → ∀ k, k < n → w.frozen? ⟨rb i, k, none⟩ = false
  inj : ∀ i k, i < n → k < n → rb i = rb k → i = k
  ne : ∀ i, i < n → rb i ≠ O
  lo : ∀ i, i < n → B ≤ rb i
  cap : ∀ i, i < n → n ≤ rc i ∧ rc i ≤ 9223372036854775807
  oB : B ≤ O
section
variable {w w' : World} {B O n : Nat} {rb rc : Nat → Nat} {F : Fun2}
theorem TO.lt (h : TO w B O n rb rc F) (i : Nat) (hi : i < n) : rb i < w.heap.size := World.block_lt_of_cell? w _ (h.ent i hi 0 (by omega))
theorem TO.ltO (h : TO w B O n rb rc F) (hn : 0 < n) : O < w.heap.size := World.block_lt_of_cell? w _ (h.row 0 hn)
theorem TO.kept (h : TO w B O n rb rc F) (hk : ∀ b, B ≤ b → b < w.heap.size → w'.heap[b]? = w.heap[b]?) : TO w' B O n rb rc F :=
  ⟨fun i hi => (World.cell?_of_block (w := w) (hk O h.oB (h.ltO (by omega)))).trans (h.row i hi), fun i hi k hk' => (World.cell?_of_block (w := w) (hk (rb i) (h.lo i hi) (h.lt i hi))).trans (h.ent i hi k hk'), fun i hi k hk' => (World.frozen?_of_block (w := w) (hk (rb i) (h.lo i hi) (h.lt i hi))).trans (h.fr i hi k hk'), h.inj, h.ne, h.lo, h.cap, h.oB⟩
theorem TO.next (h : TO w B O n rb rc F) (k : Below w.heap.size w w') : TO w' B O n rb rc F := h.kept fun b _ hb => k.block b hb
/-- One entry more is turned. -/
theorem TO.set (h : TO w B O n rb rc F) {i k : Nat} (hi : i < n) (hk : k < n) (x : Int) : TO (w.setCell ⟨rb i, k, none⟩ (.int .i64 x)) B O n rb rc (upd F i k x) := by
  refine ⟨fun j hj => ?_, fun j hj t ht => ?_, fun j hj t ht => ?_, h.inj, h.ne, h.lo, h.cap, h.oB⟩
  · rw [World.cell?_setCell_other (h := fun e => h.ne i hi (congrArg Addr.block e))]
    exact h.row j hj
  · unfold upd
    by_cases hjt : j = i ∧ t = k
    · rw [if_pos hjt]
      obtain ⟨rfl, rfl⟩ := hjt
      exact World.cell?_setCell_same _ _ _ (h.ent j hj t ht)
    · rw [if_neg hjt]
      rw [World.cell?_setCell_other (h := fun e => hjt ⟨h.inj j i hj hi (congrArg Addr.block e).symm, (congrArg Addr.off e).symm⟩)]
      exact h.ent j hj t ht
  · rw [World.frozen?_setCell]
    exact h.fr j hj t ht
theorem TO.congr (h : TO w B O n rb rc F) {G : Fun2} (e : ∀ i, i < n → ∀ k, k < n → F i k = G i k) : TO w B O n rb rc G :=
  ⟨h.row, fun i hi k hk => by rw [← e i hi k hk]; exact h.ent i hi k hk, h.fr, h.inj, h.ne, h.lo, h.cap, h.oB⟩
theorem tabF_len (F : Fun2) (n : Nat) : (tabF F n).length = n := by simp [tabF]
theorem tabF_get (F : Fun2) (n : Nat) {j : Nat} {r : List Int} (h : (tabF F n)[j]? = some r) : j < n ∧ r = (List.range n).map fun k => F j k := by
  unfold tabF at h
  rw [List.getElem?_map] at h
  obtain ⟨j', hj, rfl⟩ := Option.map_eq_some_iff.1 h
  have hl := (List.getElem?_eq_some_iff.1 hj).1
  simp at hl
  rw [List.getElem?_range hl] at hj
  obtain rfl := Option.some.inj hj
  exact ⟨hl, rfl⟩
/-- Read as a table. -/
theorem TO.tabIn (h : TO w B O n rb rc F) : TabIn w (fun b => B ≤ b ∧ b < w.heap.size) (some ⟨O, 0, none⟩) (tabF F n) := by
  by_cases hn : n = 0
  · subst hn; exact .inl rfl
  · refine .inr ⟨O, 0, rfl, ⟨h.oB, h.ltO (by omega)⟩, fun j r hj => ?_⟩
    obtain ⟨hjn, rfl⟩ := tabF_get F n hj
    refine ⟨some ⟨rb j, 0, none⟩, rc j, ?_, ?_, (h.cap j hjn).2, .inr ⟨rb j, 0, rfl, ⟨h.lo j hjn, h.lt j hjn⟩, fun k v hk => ?_⟩⟩
    · rw [Nat.zero_add, List.length_map, List.length_range]; exact h.row j hjn
    · rw [List.length_map, List.length_range]; exact (h.cap j hjn).1
    · rw [List.getElem?_map] at hk
      obtain ⟨k', hk', rfl⟩ := Option.map_eq_some_iff.1 hk
      have hl := (List.getElem?_eq_some_iff.1 hk').1
      simp at hl
      rw [List.getElem?_range hl] at hk'
      obtain rfl := Option.some.inj hk'
      rw [Nat.zero_add]
      exact h.ent j hjn k hl
end
/-- The first m rows of a table, while it is made. -/
structure TB (w : World) (B : Nat) (v : Value) (m n : Nat) (rb rc : Nat → Nat) (F : Fun2) : Prop where
  own : w.ownsRow B 48 1 v m ((List.range m).map fun i => .slice (some ⟨rb i, 0, none⟩) n (rc i))
  ent : ∀ i, i < m → ∀ k, k < n → w.cell? ⟨rb i, k, none⟩ = some (.int .i64 (F i k))
  fr : ∀ i, i < m → ∀ k, k < n → w.frozen? ⟨rb i, k, none⟩ = false
  inj : ∀ i k, i < m → k < m → rb i = rb k → i = k
  ne : ∀ i, i < m → v.ownBlock ≠ some (rb i)
  lo : ∀ i, i < m → B ≤ rb i
  hi : ∀ i, i < m → rb i < w.heap.size
  cap : ∀ i, i < m → n ≤ rc i ∧ rc i ≤ 9223372036854775807
section
variable {w w' wr w2 w3 w4 : World} {B m n : Nat} {v v' : Value} {rb rc : Nat → Nat} {F : Fun2}
theorem TB.nil (w : World) (B n : Nat) (F : Fun2) : TB w B (.slice none 0 0) 0 n (fun _ => 0) (fun _ => 0) F :=
  ⟨World.ownsRow_nil _ _ _ _, fun i hi => absurd hi (by omega), fun i hi => absurd hi (by omega), fun i k hi => absurd hi (by omega), fun i hi => absurd hi (by omega), fun i hi => absurd hi (by omega), fun i hi => absurd hi (by omega), fun i hi => absurd hi (by omega)⟩
theorem TB.next (h : TB w B v m n rb rc F) (k : Below w.heap.size w w') : TB w' B v m n rb rc F :=
  ⟨row_under h.own k, fun i hi t ht => (k.cell (p := ⟨rb i, t, none⟩) (h.hi i hi)).trans (h.ent i hi t ht), fun i hi t ht => (k.frozen (p := ⟨rb i, t, none⟩) (h.hi i hi)).trans (h.fr i hi t ht), h.inj, h.ne, h.lo, fun i hi => Nat.lt_of_lt_of_le (h.hi i hi) k.size, h.cap⟩
theorem TB.snoc {g c : Nat} (h : TB wr B v m n rb rc F) (hB : B ≤ wr.heap.size) (hg0 : wr.heap.size ≤ g) (h2 : Below wr.heap.size wr w2) (hg1 : g < w2.heap.size) (hent : ∀ k, k < n → w2.cell? ⟨g, k, none⟩ = some (.int .i64 (F m k))) (hfr : ∀ k, k < n → w2.frozen? ⟨g, k, none⟩ = false)
    (hc : n ≤ c ∧ c ≤ 9223372036854775807) (h3 : Below w2.heap.size w2 w3) (hown : w4.ownsRow B 48 1 v' (m + 1) (((List.range m).map fun i => .slice (some ⟨rb i, 0, none⟩) n (rc i)) ++ [.slice (some ⟨g, 0, none⟩) n c])) (hg : w3.grownBy w4 v.ownBlock)
    (hat : v'.ownBlock = v.ownBlock ∨ v'.ownBlock = some w3.heap.size) : TB w4 B v' (m + 1) n (fun i => if i = m then g else rb i) (fun i => if i = m then c else rc i) F := by
  have hs2 := h2.size
  have hs3 := h3.size
  have hs4 := hg.size
  have hvl : ∀ b, v.ownBlock = some b → b < wr.heap.size := fun b hb => (World.ownsRow.lt h.own b hb).2
  have hblk : ∀ b, b < w2.heap.size → v.ownBlock ≠ some b → w4.heap[b]? = w2.heap[b]? := fun b hb hne => (hg.block b (by omega) (fun e => hne e.symm)).trans (h3.block b hb)
  have hold : ∀ i, i < m → w4.heap[rb i]? = wr.heap[rb i]? := fun i hi => (hblk (rb i) (by have := h.hi i hi; omega) (h.ne i hi)).trans (h2.block (rb i) (h.hi i hi))
  have hnew : w4.heap[g]? = w2.heap[g]? := hblk g hg1 (fun e => by have := hvl g e; omega)
  refine ⟨?_, fun i hi k hk => ?_, fun i hi k hk => ?_, fun i k hi hk => ?_, fun i hi => ?_, fun i hi => ?_, fun i hi => ?_, fun i hi => ?_⟩
  · have e : ((List.range (m + 1)).map fun i => Value.slice (some ⟨if i = m then g else rb i, 0, none⟩) n (if i = m then c else rc i)) = ((List.range m).map fun i => Value.slice (some ⟨rb i, 0, none⟩) n (rc i)) ++ [.slice (some ⟨g, 0, none⟩) n c] := by
      rw [List.range_succ, List.map_append]
      congr 1
      · refine List.map_congr_left fun i hi => ?_
        have : i < m := by simpa using hi
        rw [if_neg (by omega), if_neg (by omega)]
      · simp
    rw [e]
    exact hown
  · by_cases him : i = m
    · subst him
      rw [if_pos rfl]
      exact (World.cell?_of_block (w := w2) hnew).trans (hent k hk)
    · rw [if_neg him]
      exact (World.cell?_of_block (w := wr) (hold i (by omega))).trans (h.ent i (by omega) k hk)
  · by_cases him : i = m
    · subst him
      rw [if_pos rfl]
      exact (World.frozen?_of_block (w := w2) hnew).trans (hfr k hk)
    · rw [if_neg him]
      exact (World.frozen?_of_block (w := wr) (hold i (by omega))).trans (h.fr i (by omega) k hk)
  · by_cases him : i = m
    · by_cases hkm : k = m
      · omega
      · rw [if_pos him, if_neg hkm]
        intro e
        have := h.hi k (by omega)
        omega
    · by_cases hkm : k = m
      · rw [if_neg him, if_pos hkm]
        intro e
        have := h.hi i (by omega)
        omega
      · rw [if_neg him, if_neg hkm]
        exact h.inj i k (by omega) (by omega)
  · by_cases him : i = m
    · rw [if_pos him]
      intro e
      rcases hat with ha | ha
      · rw [ha] at e; have := hvl g e; omega
      · rw [ha] at e; injection e; omega
    · rw [if_neg him]
      intro e
      rcases hat with ha | ha
      · rw [ha] at e; exact h.ne i (by omega) e
      · rw [ha] at e; injection e with e; have := h.hi i (by omega); omega
  · by_cases him : i = m
    · rw [if_pos him]; omega
    · rw [if_neg him]; exact h.lo i (by omega)
  · by_cases him : i = m
    · rw [if_pos him]; omega
    · rw [if_neg him]; have := h.hi i (by omega); omega
  · by_cases him : i = m
    · rw [if_pos him]; exact hc
    · rw [if_neg him]; exact h.cap i (by omega)
theorem TB.slice (h : TB w B v m n rb rc F) : ∃ A c, v = .slice A m c := by
  rcases h.own.2 with ⟨hv, h0⟩ | ⟨_, _, _, hv, _⟩
  · subst h0; exact ⟨_, _, hv⟩
  · exact ⟨_, _, hv⟩
/-- A table that is made. -/
theorem TB.to (h : TB w B v n n rb rc F) (hn : 0 < n) : ∃ O cap, v = .slice (some ⟨O, 0, none⟩) n cap ∧ n ≤ cap ∧ cap ≤ 9223372036854775807 ∧ TO w B O n rb rc F := by
  rcases h.own.2 with ⟨_, h0⟩ | ⟨O, cap, cur, hv, hB, hg, h1, h2, _⟩
  · omega
  · subst hv
    refine ⟨O, cap, rfl, h1, by unfold maxLen at h2; omega, ⟨fun i hi => ?_, h.ent, h.fr, h.inj, fun i hi e => h.ne i hi (by rw [e]; rfl), h.lo, h.cap, hB⟩⟩
    have := World.ownsRow.cells h.own (g := O) rfl i (.slice (some ⟨rb i, 0, none⟩) n (rc i)) (by rw [List.getElem?_map, List.getElem?_range hi]; rfl)
    rw [Addr.add_lit, Nat.zero_add] at this
    exact this
end
theorem infoInts : (Tryd.prog.info? 48).map (fun i => (i.zero, i.size, i.bytes)) = some (some (.slice none 0 0), 1, 24) := by kernel_rfl
set_option maxHeartbeats 2000000 in
set_option maxRecDepth 100000 in
/-- slices.Clone of some ints. -/
theorem cloneInts_any (b off c : Nat) (r : List Int) (w : World) (h0 : 0 < r.length) (hl : r.length ≤ 1000000) (hc : ∀ j, j < r.length → w.cell? ⟨b, off + j, none⟩ = some (.int .i64 (r.getD j 0))) :
    Calls Tryd.prog 43 #[.slice (some ⟨b, off, none⟩) r.length c] w fun e w' => (∃ g cap, e = .returned (.slice (some ⟨g, 0, none⟩) r.length cap) ∧ r.length ≤ cap ∧ cap ≤ 9223372036854775807 ∧ IntRow w' w.heap.size (.slice (some ⟨g, 0, none⟩) r.length cap) r) ∧ Below w.heap.size w w' := by
  obtain ⟨iI, hiI, hzI, hsI, hbI⟩ := info_parts infoInt
  have q22 : ∀ (w : World) (a : Option Addr) (n c n' c' : Nat), (binOp .eql 48 (.slice a n c) (.slice none n' c')).run Tryd.prog w = .ok (.bool a.isNone) w := fun w a n c n' c' => Lib.run_eql_slice_nil w _ _ a n c n' c' Tryd.underlying48
  have HC := hid hc
  have HB := hid ((Below.refl w.heap.size w).alloc (Nat.le_refl _) (.cells #[] 3))
  have HO := hid (World.ownsRow_made (base := w.heap.size) (e := 3) (size := 1) w #[] 0 (Nat.le_refl _) (Nat.zero_le _) (by simp))
  have hlen : r.length = (r.length - 1) + 1 := by omega
  have HL := hid hlen
  have HR : Hid (intVals r = intVals r) := hid rfl
  obtain ⟨n, hn⟩ : ∃ n, r.length = n := ⟨_, rfl⟩
  have HN := hid hn
  have hn0 : 0 < n := by omega
  have hnl : n ≤ 1000000 := by omega
  rw [hn]
  clear hc hlen h0 hl hn
  unfold IntRow
  go_enter Tryd.func43, Tryd.ntmps43
  go_wp2_with (at_builtin; refine wpList_append_own_at _ rfl _ _ 48 rfl w.heap.size 3 iI (.int .i64 0) 1 8 Tryd.underlying48 hiI hzI hsI hbI rfl (by decide) _ 0 [] rfl HO.out ⟨b, off, none⟩ n c (intVals r) rfl ?q1 ?q2 ?q3 ?q4 ?q5 ?q6 ?_)
  case q1 => rw [intVals_len, HN.out]
  case q2 =>
    intro j u hj
    unfold intVals at hj
    rw [List.getElem?_map] at hj
    obtain ⟨x, hx, rfl⟩ := Option.map_eq_some_iff.1 hj
    have hjl := (List.getElem?_eq_some_iff.1 hx).1
    refine Lib.cell?_alloc_some _ ?_
    rw [HC.out j hjl, getD_elem hjl]
    rw [List.getElem?_eq_getElem hjl] at hx
    injection hx with hx
    rw [hx]
  case q3 =>
    intro u hu
    unfold intVals at hu
    obtain ⟨x, _, rfl⟩ := List.mem_map.1 hu
    rfl
  case q4 => unfold maxLen; omega
  case q5 => omega
  intro v' w1 hown hgrow hnil hat
  (try rw [Nat.zero_add] at hown)
  (try rw [List.nil_append] at hown)
  have hB1 : Below w.heap.size w w1 := HB.out.grown hgrow (by simp) (by intro k hk; simp [Value.ownBlock] at hk; omega)
  rw [show n = (n - 1) + 1 by omega] at hown
  obtain ⟨g, cap, rfl⟩ := ownsRow_succ hown
  rw [show (n - 1) + 1 = n by omega] at hown ⊢
  have hcap : n ≤ cap ∧ cap ≤ 9223372036854775807 := by
    rcases hown.2 with ⟨_, h0⟩ | ⟨_, _, _, he, _, _, h1, h2, _⟩
    · omega
    · injection he with _ _ he
      subst he
      unfold maxLen at h2
      omega
  go_wp2
  go_ret
  exact ⟨⟨g, cap, rfl, hcap.1, hcap.2, by rw [HN.out]; exact hown⟩, hB1⟩
set_option maxHeartbeats 2000000 in
set_option maxRecDepth 100000 in
/-- slices.Clone of strings. -/
theorem cloneStrs_any (A : Option Addr) (c : Nat) (l : List Str) (w : World) (hl : l.length ≤ 1000000) (h : S3.StrsIn w (fun b => b < w.heap.size) A l) :
    Calls Tryd.prog 25 #[.slice A l.length c] w (RowOut l w) := by
  unfold RowOut
  obtain ⟨iI, hiI, hzI, hsI, hbI⟩ := info_parts S3.infoStr
  have q22 : ∀ (w : World) (a : Option Addr) (n c n' c' : Nat), (binOp .eql 22 (.slice a n c) (.slice none n' c')).run Tryd.prog w = .ok (.bool a.isNone) w := fun w a n c n' c' => Lib.run_eql_slice_nil w _ _ a n c n' c' Tryd.underlying22
  cases A with
  | none =>
    have hnil : l = [] := by
      rcases h with h | ⟨b, off, hA, _⟩
      · exact h
      · cases hA
    subst hnil
    clear h hl
    go_enter Tryd.func25, Tryd.ntmps25
    go_wp2
    go_ret
    exact ⟨⟨_, rfl, World.ownsRow_nil _ _ _ _⟩, Below.refl _ _⟩
  | some ad =>
    have hc : ∀ (j : Nat) (u : Value), (S3.strVals l)[j]? = some u → w.cell? (ad.add j) = some u := by
      intro j u hj
      unfold S3.strVals at hj
      rw [List.getElem?_map] at hj
      obtain ⟨x, hx, rfl⟩ := Option.map_eq_some_iff.1 hj
      rcases h with h | ⟨b, off, hA, _, hc⟩
      · subst h; simp at hx
      · injection hA with hA
        subst hA
        rw [Go.WideShapes.add_plain]
        exact hc j x hx
    have HC := hid hc
    have HB := hid ((Below.refl w.heap.size w).alloc (Nat.le_refl _) (.cells #[] 9))
    have HO := hid (World.ownsRow_made (base := w.heap.size) (e := 9) (size := 1) w #[] 0 (Nat.le_refl _) (Nat.zero_le _) (by simp))
    have HN := hid (S3.strVals_len l)
    obtain ⟨n, hn⟩ : ∃ n, l.length = n := ⟨_, rfl⟩
    rw [hn] at HN hl ⊢
    have HNN := hid hn
    clear hc h hn
    unfold S3.StrRow
    rw [HNN.out]
    go_enter Tryd.func25, Tryd.ntmps25
    go_wp2_with (at_builtin; refine wpList_append_own_at _ rfl _ _ 22 rfl w.heap.size 9 iI (.string ⟨#[]⟩) 1 16 Tryd.underlying22 hiI hzI hsI hbI rfl (by decide) _ 0 [] rfl HO.out ad n c (S3.strVals l) rfl ?q1 ?q2 ?q3 ?q4 ?q5 ?q6 ?_)
    case q1 => rw [HN.out, Nat.mul_one]
    case q2 =>
      intro j u hj
      exact Lib.cell?_alloc_some _ (HC.out j u hj)
    case q3 =>
      intro u hu
      unfold S3.strVals at hu
      obtain ⟨x, _, rfl⟩ := List.mem_map.1 hu
      rfl
    case q4 => unfold maxLen; omega
    case q5 => omega
    case q6 => simp
    intro v' w1 hown hgrow hnil hat
    (try rw [Nat.zero_add] at hown)
    (try rw [List.nil_append] at hown)
    have hB1 : Below w.heap.size w w1 := HB.out.grown hgrow (by simp) (by intro k hk; simp [Value.ownBlock] at hk; omega)
    have HOWN := hid hown
    have HB1 := hid hB1
    clear hown hgrow hnil hat hB1
    go_wp2
    go_ret
    exact ⟨⟨_, rfl, HOWN.out⟩, HB1.out⟩
set_option maxHeartbeats 8000000 in
set_option maxRecDepth 100000 in
/-- cloneRows of travel, of a square table. -/
theorem cloneRows_any (S : Option Addr) (R : List (List Int)) (d n : Nat) (w : World) (h : TabIn w (fun b => b < w.heap.size) S R) (hs : sqrB R n = true) (hn0 : 0 < n) (hn8 : n ≤ 8) :
    Calls Tryd.prog 22 #[.slice S n d] w fun e w' => (∃ O cap, e = .returned (.slice (some ⟨O, 0, none⟩) n cap) ∧ n ≤ cap ∧ cap ≤ 9223372036854775807 ∧ ∃ rb rc : Nat → Nat, TO w' w.heap.size O n rb rc (funT R n)) ∧ Below w.heap.size w w' := by
  obtain ⟨iI, hiI, hzI, hsI, hbI⟩ := info_parts infoInts
  obtain ⟨b, off, rfl, hb, hc⟩ := h.sqB hs hn0
  have HC := hid hc
  have HRL := hid (fun i (hi : i < n) => (show (R.getD i []).length = n by
    have hi' : i < R.length := by rw [sqrB_len hs]; exact hi
    have e2 : R.getD i [] = R[i] := by simp [List.getD, List.getElem?_eq_getElem hi']
    rw [e2]
    exact sqrB_row hs hi'))
  clear h hs hc
  go_enter Tryd.func22, Tryd.ntmps22
  go_wp2
  go_loopw [3, 5, 8] (fun tv _ iv wr => ∃ (i : Nat) (rb rc : Nat → Nat), iv = .int .i64 (i : Int) ∧ i ≤ n ∧ Hid (TB wr w.heap.size tv i n rb rc (funT R n)) ∧ Hid (Below w.heap.size w wr)) (fun _ _ iv _ => n - (RowKit.intOf iv).toNat)
  case atStart => exact ⟨0, _, _, rfl, Nat.zero_le _, hid (TB.nil _ _ _ _), hid (Below.refl _ _)⟩
  case round =>
    obtain ⟨i, rb, rc, rfl, hi, hT, hB⟩ := hrel
    obtain ⟨At, ct, hvt⟩ := hT.out.slice
    subst hvt
    by_cases hlt : i < n
    · have hltz : (i : Int) < (n : Int) := by omega
      obtain ⟨bi, oi, ci, hbi, hrw⟩ := HC.out i hlt
      have y0 := (hrw wr hB.out).1
      have y1 := (hrw wr hB.out).2
      have hrl := HRL.out i hlt
      have cC := cloneInts_any bi oi ci (R.getD i []) wr (by omega) (by omega) (fun j hj => y1 j (by omega))
      rw [hrl] at cC
      have CC := hid cC
      have HRI := hid hrl
      have HB1 := hid (hB.out.size)
      clear y1 cC hrl hrw
      go_wp2_with fail
      refine CC.out.mono ?_
      rintro e w2 ⟨⟨g, cap, rfl, hc1, hc2, hrow⟩, hb2⟩
      have hent := fun k (hk : k < n) => IntRow.ent hrow k (by rw [HRI.out]; exact hk)
      have hgl := hent 0 hn0
      have HG := hid (And.intro hgl.2.2.1 hgl.2.2.2)
      have HENT : Hid (∀ k, k < n → w2.cell? ⟨g, k, none⟩ = some (.int .i64 (funT R n i k))) := hid (fun k hk => by rw [funT_in hlt hk]; exact (hent k hk).1)
      have HFR : Hid (∀ k, k < n → w2.frozen? ⟨g, k, none⟩ = false) := hid (fun k hk => (hent k hk).2.1)
      have HCP := hid (And.intro hc1 hc2)
      have HB2 := hid hb2
      have HT2 := hid (hT.out.next hb2).own
      have HC3 : Hid (i + 1 ≤ maxLen) := hid (by unfold maxLen; omega)
      have HC4 : Hid ((i + 1) * 24 ≤ 140737488355328) := hid (by omega)
      have HC5 : Hid (∀ o : Obj, w.heap.size ≤ (w2.alloc o).heap.size) := hid (fun o => by have := HB1.out; have := HB2.out.size; simp; omega)
      clear hent hgl hrow hb2 hc1 hc2 y0
      go_wp2_with (at_builtin; refine wpList_append_own_at _ rfl _ _ 23 rfl w.heap.size 48 iI (.slice none 0 0) 1 24 Tryd.underlying23 hiI hzI hsI hbI rfl (by decide) _ i _ rfl (World.ownsRow.alloc HT2.out _) ⟨w2.heap.size, 0, none⟩ 1 1 [.slice (some ⟨g, 0, none⟩) n cap] rfl rfl (one_new _ _ _) (one_slice _ _ _) HC3.out HC4.out (HC5.out _) ?_)
      intro v' w4 hown' hgrow _ hat
      have hTB := TB.snoc hT.out HB1.out HG.out.1 HB2.out HG.out.2 HENT.out HFR.out HCP.out ((Below.refl w2.heap.size w2).alloc (Nat.le_refl _) (.cells #[.slice (some ⟨g, 0, none⟩) n cap] 48)) hown' hgrow (hat.imp id (fun h => h.trans (by simp)))
      have HTB := hid hTB
      have hb4 : Below w.heap.size wr w4 := (HB2.out.mono HB1.out).trans (((Below.refl w.heap.size w2).alloc (by have := HB1.out; have := HB2.out.size; omega) _).grown hgrow (HC5.out _) (fun k hk => (World.ownsRow.lt HT2.out k hk).1))
      have HB4 := hid (hB.out.trans hb4)
      clear hTB hb4 hown' hgrow hat
      go_wp2_with fail
      go_roundw
      case rel => exact ⟨i + 1, _, _, by go_num, by omega, HTB, HB4⟩
      case measure => simp [RowKit.intOf]; omega
    · have hltz : ¬ (i : Int) < (n : Int) := by omega
      obtain rfl : i = n := by omega
      obtain ⟨O, cap, hv, hc1, hc2, hTO⟩ := hT.out.to hn0
      injection hv with hv1 _ hv2
      subst hv1
      subst hv2
      have HTO := hid hTO
      have HCP := hid (And.intro hc1 hc2)
      clear hT hTO hc1 hc2
      go_wp2
      go_ret
      refine ⟨⟨O, ct, rfl, ?_, ?_, rb, rc, HTO.out⟩, hB.out⟩
      · exact HCP.out.1
      · exact HCP.out.2
end Go.Proofs.YtocmbifljkcmeaaDoor

