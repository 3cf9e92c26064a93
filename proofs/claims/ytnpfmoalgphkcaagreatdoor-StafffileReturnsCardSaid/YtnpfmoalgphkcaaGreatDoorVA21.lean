/-
  What reading a field and an entry leave behind; a room in a block of its own. Conditions: as stated.
  Open of roomfile. Conditions: the room's times lie in memory; the times begin below 2^63.
  Lists of times: Fit and Overlap of timelists. Conditions: the times lie in memory; they begin below 2^63.
  How two times stand to each other, by the specification: meet, Between, Overlap, Before. Conditions: none.
-/
import Derived.Test.YtnpfmoalgphkcaaGreatDoorVA20
import Derived.Test.YtnpfmoalgphkcaaGreatDoorVA19
import Derived.Test.YtnpfmoalgphkcaaGreatDoorVA12
import Derived.Laws.ResultCell
import Derived.RegionTactic
import Derived.WalkKit
import Derived.Deep.QuietTactic
set_option linter.unusedVariables false
namespace Go.Proofs.YtnpfmoalgphkcaaGreatDoor
open Go Go.Proofs Go.RowKit Go.Lib

/-- What a call that reads an entry leaves behind. -/
def EntryOut (o : RoomD × Int × Int) (w : World) (e : Ending) (w' : World) : Prop :=
  (∃ q, e = .returned (.tuple #[roomV o.1 q, .int .i64 o.2.1, .int .i64 o.2.2]) ∧ RoomIn w' (fun k => w.heap.size ≤ k ∧ k < w'.heap.size) o.1 q) ∧ Below w.heap.size w w'
theorem results_ctt {fn : Func} {p u v : Tmp} {A : TypeId} (h : fn.results = #[.cell p A, .tmp u, .tmp v]) (tmps : Array Value) (P : Program) (w : World) (a : Addr) (va vc vd : Value)
    (ha : tmps.getD p undef = .pointer (some a)) (hc : tmps.getD u undef = vc) (hd : tmps.getD v undef = vd)
    (hla : (loadVar A a).run P w = .ok va w) : (results fn tmps).run P w = .ok (.tuple #[va, vc, vd]) w := by
  rw [Array.getD_eq_getD_getElem?] at ha hc hd
  simp only [results, h]
  simp [Result.andThen, ha, hc, hd, hla, asAddr]
theorem grown_of_below {w w' : World} (h : Below w.heap.size w w') : w.grownBy w' none := ⟨h.os, h.tape, h.output, h.size, fun k hk _ => h.block k hk⟩
theorem put_grown {W w2 : World} (hb : Below W.heap.size W w2) (R j : Nat) (v : Value) : W.grownBy (w2.setCell ⟨R, j, none⟩ v) (some R) :=
  ((grown_of_below hb).but (some R)).trans ⟨by simp [World.setCell], by simp [World.setCell], by simp [World.setCell], by simp [World.setCell], fun k _ hk => Below.heap_setCell w2 ⟨R, j, none⟩ v k (fun e => hk (by rw [show k = R from e]))⟩
theorem RoomIn.past {W w2 : World} {R j : Nat} {v : Value} {r : RoomD} {q : Room5} (h : RoomIn W (fun k => R < k ∧ k < W.heap.size) r q) (hb : Below W.heap.size W w2) : RoomIn (w2.setCell ⟨R, j, none⟩ v) (fun k => R < k ∧ k < (w2.setCell ⟨R, j, none⟩ v).heap.size) r q := by
  have hg := put_grown hb R j v
  have hs := hg.size
  exact (h.kept (fun k hk => hg.block k hk.2 (fun e => by injection e; omega))).mono (fun k hk => ⟨hk.1, by omega⟩)
end Go.Proofs.YtnpfmoalgphkcaaGreatDoor

set_option linter.unusedVariables false
namespace Go.Proofs.YtnpfmoalgphkcaaGreatDoor
open Go Go.Proofs Go.RowKit Go.Lib

set_option maxHeartbeats 2000000 in
theorem pred_open (k' y' t' l' : Int) (ht' : t' ≤ 9223372036854775807) (G : Nat) (w : World) (hG : Box4 w G k' y' t' l') :
    PredBelow Tryz.prog 58 #[.pointer (some ⟨G, 0, none⟩)] (fun x : TimeF => .agg (encT x).toArray) (fun x => overB x.1.1 x.1.2.1 x.1.2.2.1 x.1.2.2.2 k' y' t' l') w := fun W x hb => by
  obtain ⟨⟨k, y, t, l⟩, ht⟩ := x
  have cF := fun w => overlap_any k y t l k' y' t' l' ht ht' w
  unfold Says at cF
  have hGl := hG.lt
  have hG' := hG.next hb hGl
  obtain ⟨x0, x1, x2, x3, _⟩ := hG'
  have hsW := hb.size
  have hGW : G ≠ W.heap.size := by omega
  have hGL : G < W.heap.size := by omega
  show Calls Tryz.prog 58 #[.agg #[.int .i64 k, .int .i64 y, .int .i64 t, .int .i64 l], .pointer (some ⟨G, 0, none⟩)] W _
  show Calls _ _ _ _ fun e w' => e = .returned (.bool (overB k y t l k' y' t' l')) ∧ _
  obtain ⟨F, hF⟩ : ∃ F, overB k y t l k' y' t' l' = F := ⟨_, rfl⟩
  rw [hF] at cF ⊢
  have HB := hid (hb.alloc hb.size (.cells #[.int .i64 k, .int .i64 y, .int .i64 t, .int .i64 l] 26))
  clear hb hF hG
  go_enter Tryz.func58, Tryz.ntmps58
  go_wp2_with fail
  refine (cF _).mono ?_
  rintro e w' ⟨rfl, hb2⟩
  have HB2 := hid (HB.out.trans (hb2.mono HB.out.size))
  clear hb2
  go_wp2
  go_ret
  exact ⟨rfl, HB2.out⟩
end Go.Proofs.YtnpfmoalgphkcaaGreatDoor

set_option linter.unusedVariables false
namespace Go.Proofs.YtnpfmoalgphkcaaGreatDoor
open Go Go.Proofs Go.RowKit Go.Lib

set_option maxHeartbeats 8000000 in
set_option maxRecDepth 100000 in
theorem tfit_any (d s b m n : Int) (A : Option Addr) (l : List TimeD) (c : Nat) (w : World) (h : TimesIn w (fun b => b < w.heap.size) A l) (hlc : l.length ≤ c) (hc : c ≤ 9223372036854775807) :
    Calls Tryz.prog 64 #[.slice A l.length c, .agg #[.int .i64 d, .int .i64 s, .int .i64 b, .int .i64 m], .int .i64 n] w (Says (.bool (!(l.any (unfitB d s b m n)))) w) := by
  unfold Says
  have hG := Box4.new w d s b m 24
  have hb1 := (Below.refl w.heap.size w).alloc (Nat.le_refl _) (.cells #[.int .i64 d, .int .i64 s, .int .i64 b, .int .i64 m] 24)
  have hs1 : (w.alloc (.cells #[.int .i64 d, .int .i64 s, .int .i64 b, .int .i64 m] 24)).heap.size = w.heap.size + 1 := by simp
  obtain ⟨w1, hw1⟩ : ∃ w1, w.alloc (.cells #[.int .i64 d, .int .i64 s, .int .i64 b, .int .i64 m] 24) = w1 := ⟨_, rfl⟩
  rw [hw1] at hG hb1 hs1
  have hN := Box1.new w1 3 (.int .i64 n)
  have hb2 := (Below.refl w1.heap.size w1).alloc (Nat.le_refl _) (.cells #[.int .i64 n] 3)
  obtain ⟨w2, hw2⟩ : ∃ w2, w1.alloc (.cells #[.int .i64 n] 3) = w2 := ⟨_, rfl⟩
  rw [hw2] at hN hb2
  have hb := hb1.trans (hb2.mono (by omega))
  have cT := anyT_any (unfitB d s b m n) 88 #[.pointer (some ⟨w.heap.size, 0, none⟩), .pointer (some ⟨w1.heap.size, 0, none⟩)] egUnfit A l c w.heap.size w2 hb.size (pred_unfit d s b m n _ _ w2 (hG.next hb2 hG.lt) hN.cell hN.lt) (h.below hb) hlc hc
  obtain ⟨R, hR⟩ : ∃ R, l.any (unfitB d s b m n) = R := ⟨_, rfl⟩
  rw [hR] at cT ⊢
  rw [hs1] at cT
  have CT := hid cT
  have HB := hid hb
  have HW1 := hid hw1
  have HW2 := hid hw2
  clear cT hb hG hb1 hb2 hN h hlc hc hR hw1 hw2 hs1
  go_enter Tryz.func64, Tryz.ntmps64
  go_wp2_with fail
  (try rw [HW1.out])
  (try rw [HW2.out])
  refine CT.out.mono ?_
  rintro e w' ⟨rfl, hb3⟩
  have HB3 := hid (HB.out.trans (hb3.mono HB.out.size))
  clear hb3
  cases R with
  | true =>
    go_wp2
    go_ret
    exact ⟨rfl, HB3.out⟩
  | false =>
    go_wp2
    go_ret
    exact ⟨rfl, HB3.out⟩
set_option maxHeartbeats 8000000 in
set_option maxRecDepth 100000 in
theorem tover_any (A : Option Addr) (l : List TimeD) (c : Nat) (t : TimeD) (ht : t.2.2.1 ≤ 9223372036854775807) (w : World) (h : TimesIn w (fun b => b < w.heap.size) A l) (hlc : l.length ≤ c) (hc : c ≤ 9223372036854775807) :
    Calls Tryz.prog 33 #[.slice A l.length c, timeV t] w (Says (.bool (!(clearM l t))) w) := by
  obtain ⟨k', y', t', l'⟩ := t
  unfold Says timeV clearM
  dsimp only at ht ⊢
  rw [Bool.not_not]
  have hG := Box4.new w k' y' t' l' 26
  have hb1 := (Below.refl w.heap.size w).alloc (Nat.le_refl _) (.cells #[.int .i64 k', .int .i64 y', .int .i64 t', .int .i64 l'] 26)
  obtain ⟨w1, hw1⟩ : ∃ w1, w.alloc (.cells #[.int .i64 k', .int .i64 y', .int .i64 t', .int .i64 l'] 26) = w1 := ⟨_, rfl⟩
  rw [hw1] at hG hb1
  have cT := anyT_any (fun x => overB x.1 x.2.1 x.2.2.1 x.2.2.2 k' y' t' l') 58 #[.pointer (some ⟨w.heap.size, 0, none⟩)] egOpen A l c w.heap.size w1 hb1.size (pred_open k' y' t' l' ht _ w1 hG) (h.below hb1) hlc hc
  obtain ⟨R, hR⟩ : ∃ R, (l.any fun x => overB x.1 x.2.1 x.2.2.1 x.2.2.2 k' y' t' l') = R := ⟨_, rfl⟩
  rw [hR] at cT ⊢
  have CT := hid cT
  have HB := hid hb1
  have HW1 := hid hw1
  clear cT hG hb1 h hlc hc hR hw1 ht
  go_enter Tryz.func33, Tryz.ntmps33
  go_wp2_with fail
  (try rw [HW1.out])
  refine CT.out.mono ?_
  rintro e w' ⟨rfl, hb3⟩
  have HB3 := hid (HB.out.trans (hb3.mono HB.out.size))
  clear hb3
  go_wp2
  go_ret
  exact ⟨rfl, HB3.out⟩
set_option maxHeartbeats 8000000 in
set_option maxRecDepth 100000 in
/-- Free of stafffile. -/
theorem free_any (x : LectD) (q : LectA) (t : TimeD) (ht : t.2.2.1 ≤ 9223372036854775807) (w : World) (h : LectIn w (fun b => b < w.heap.size) x q) :
    Calls Tryz.prog 10 #[lectV x q, timeV t] w (Says (.bool (clearM x.2 t)) w) := by
  have hX := Box2.new w (.string (ba x.1)) (.slice q.1 x.2.length q.2)
  have hb1 := (Below.refl w.heap.size w).alloc (Nat.le_refl _) (.cells #[.string (ba x.1), .slice q.1 x.2.length q.2] 34)
  have hs1 : (w.alloc (.cells #[.string (ba x.1), .slice q.1 x.2.length q.2] 34)).heap.size = w.heap.size + 1 := by simp
  obtain ⟨w1, hw1⟩ : ∃ w1, w.alloc (.cells #[.string (ba x.1), .slice q.1 x.2.length q.2] 34) = w1 := ⟨_, rfl⟩
  rw [hw1] at hX hb1 hs1
  have hb2 := (Below.refl w1.heap.size w1).alloc (Nat.le_refl _) (.cells #[.int .i64 t.1, .int .i64 t.2.1, .int .i64 t.2.2.1, .int .i64 t.2.2.2] 26)
  obtain ⟨w2, hw2⟩ : ∃ w2, w1.alloc (.cells #[.int .i64 t.1, .int .i64 t.2.1, .int .i64 t.2.2.1, .int .i64 t.2.2.2] 26) = w2 := ⟨_, rfl⟩
  rw [hw2] at hb2
  have hb := hb1.trans (hb2.mono (by omega))
  have cT := tover_any q.1 x.2 q.2 t ht w2 ((h.t.below hb).mono (fun k hk => Nat.lt_of_lt_of_le hk hb.size)) h.t1 h.t2
  unfold Says lectV timeV at *
  obtain ⟨R, hR⟩ : ∃ R, clearM x.2 t = R := ⟨_, rfl⟩
  rw [hR] at cT ⊢
  obtain ⟨t0, t1, t2, t3⟩ := t
  obtain ⟨x0, x1⟩ := x
  dsimp only at *
  obtain ⟨F, hF⟩ : ∃ F, x1.length = F := ⟨_, rfl⟩
  obtain ⟨X, hXe⟩ : ∃ X, ba x0 = X := ⟨_, rfl⟩
  rw [hF] at cT ⊢
  rw [hXe] at ⊢
  rw [hF, hXe] at hw1
  have CT := hid cT
  have HB := hid hb
  have HW1 := hid hw1
  have HW2 := hid hw2
  clear cT hX hb1 hb2 hs1 h hR hw1 hw2 ht hb hF hXe
  go_enter Tryz.func10, Tryz.ntmps10
  go_wp2_with fail
  (try rw [HW1.out])
  (try rw [HW2.out])
  refine CT.out.mono ?_
  rintro e w' ⟨rfl, hb3⟩
  have HB3 := hid (HB.out.trans (hb3.mono HB.out.size))
  clear hb3
  go_wp2
  go_ret
  exact ⟨by cases R <;> rfl, HB3.out⟩
end Go.Proofs.YtnpfmoalgphkcaaGreatDoor

set_option linter.unusedVariables false
namespace Go.Proofs.YtnpfmoalgphkcaaGreatDoor
open Go Go.Proofs Go.RowKit Go.Lib

set_option maxHeartbeats 4000000 in
set_option maxRecDepth 100000 in
theorem rmeet_any (k y t l k' y' t' l' : Int) (w : World) : Calls Tryz.prog 102 #[.agg #[.int .i64 k, .int .i64 y, .int .i64 t, .int .i64 l], .agg #[.int .i64 k', .int .i64 y', .int .i64 t', .int .i64 l']] w (Says (.bool (meetB k y t l k' y' t' l')) w) := by
  have cS := fun w => rsound_any k y t l w
  have cS2 := fun w => rsound_any k' y' t' l' w
  unfold Says at cS cS2 ⊢
  cases hs : soundB k y t l with
  | false =>
    rw [show meetB k y t l k' y' t' l' = false from decide_eq_false (fun h => by rw [hs] at h; exact absurd h.1 (by simp))]
    rw [hs] at cS
    clear hs cS2
    have HK := hid (K2.first w k y t l k' y' t' l' 26 26)
    go_enter Tryz.func102, Tryz.ntmps102
    go_wp2_with fail
    refine (cS _).mono ?_
    rintro e w1 ⟨rfl, hb⟩
    have hk := HK.out.next hb
    clear hb HK
    obtain ⟨⟨x0, x1, x2, x3, _⟩, ⟨y0, y1, y2, y3, _⟩, _⟩ := id hk
    go_wp2
    go_ret
    exact ⟨rfl, hk.b⟩
  | true =>
    rw [hs] at cS
    cases hs2 : soundB k' y' t' l' with
    | false =>
      rw [show meetB k y t l k' y' t' l' = false from decide_eq_false (fun h => by rw [hs2] at h; exact absurd h.2.1 (by simp))]
      rw [hs2] at cS2
      clear hs hs2
      have HK := hid (K2.first w k y t l k' y' t' l' 26 26)
      go_enter Tryz.func102, Tryz.ntmps102
      go_wp2_with fail
      refine (cS _).mono ?_
      rintro e w1 ⟨rfl, hb⟩
      have hk := HK.out.next hb
      clear hb HK
      obtain ⟨⟨x0, x1, x2, x3, _⟩, ⟨y0, y1, y2, y3, _⟩, _⟩ := id hk
      go_wp2_with fail
      refine (cS2 _).mono ?_
      rintro e w1 ⟨rfl, hb⟩
      have hk := hk.next hb
      clear hb
      obtain ⟨⟨x0, x1, x2, x3, _⟩, ⟨y0, y1, y2, y3, _⟩, _⟩ := id hk
      go_wp2
      go_ret
      exact ⟨rfl, hk.b⟩
    | true =>
      rw [hs2] at cS2
      by_cases hw : bits .and .i64 k k' = 0
      · rw [show meetB k y t l k' y' t' l' = false from decide_eq_false (fun h => h.2.2.1 hw)]
        clear hs hs2
        have HK := hid (K2.first w k y t l k' y' t' l' 26 26)
        go_enter Tryz.func102, Tryz.ntmps102
        go_wp2_with fail
        refine (cS _).mono ?_
        rintro e w1 ⟨rfl, hb⟩
        have hk := HK.out.next hb
        clear hb HK
        obtain ⟨⟨x0, x1, x2, x3, _⟩, ⟨y0, y1, y2, y3, _⟩, _⟩ := id hk
        go_wp2_with fail
        refine (cS2 _).mono ?_
        rintro e w1 ⟨rfl, hb⟩
        have hk := hk.next hb
        clear hb
        obtain ⟨⟨x0, x1, x2, x3, _⟩, ⟨y0, y1, y2, y3, _⟩, _⟩ := id hk
        go_wp2
        go_ret
        exact ⟨rfl, hk.b⟩
      · have hwd : (bits .and .i64 k k' != 0) = true := by simpa using hw
        by_cases hy : y = y'
        · rw [show meetB k y t l k' y' t' l' = true from decide_eq_true ⟨hs, hs2, hw, hy⟩]
          have hyd : (y == y') = true := by simpa using hy
          clear hs hs2 hw hy
          have HK := hid (K2.first w k y t l k' y' t' l' 26 26)
          go_enter Tryz.func102, Tryz.ntmps102
          go_wp2_with fail
          refine (cS _).mono ?_
          rintro e w1 ⟨rfl, hb⟩
          have hk := HK.out.next hb
          clear hb HK
          obtain ⟨⟨x0, x1, x2, x3, _⟩, ⟨y0, y1, y2, y3, _⟩, _⟩ := id hk
          go_wp2_with fail
          refine (cS2 _).mono ?_
          rintro e w1 ⟨rfl, hb⟩
          have hk := hk.next hb
          clear hb
          obtain ⟨⟨x0, x1, x2, x3, _⟩, ⟨y0, y1, y2, y3, _⟩, _⟩ := id hk
          go_wp2
          go_ret
          exact ⟨rfl, hk.b⟩
        · have hyd : (y == y') = false := by simpa using hy
          rw [show meetB k y t l k' y' t' l' = false from decide_eq_false (fun h => hy h.2.2.2)]
          clear hs hs2 hw
          have HK := hid (K2.first w k y t l k' y' t' l' 26 26)
          go_enter Tryz.func102, Tryz.ntmps102
          go_wp2_with fail
          refine (cS _).mono ?_
          rintro e w1 ⟨rfl, hb⟩
          have hk := HK.out.next hb
          clear hb HK
          obtain ⟨⟨x0, x1, x2, x3, _⟩, ⟨y0, y1, y2, y3, _⟩, _⟩ := id hk
          go_wp2_with fail
          refine (cS2 _).mono ?_
          rintro e w1 ⟨rfl, hb⟩
          have hk := hk.next hb
          clear hb
          obtain ⟨⟨x0, x1, x2, x3, _⟩, ⟨y0, y1, y2, y3, _⟩, _⟩ := id hk
          go_wp2
          go_ret
          exact ⟨rfl, hk.b⟩
set_option maxHeartbeats 4000000 in
set_option maxRecDepth 100000 in
theorem rbetween_any (k y t l k' y' t' l' : Int) (w : World) : Calls Tryz.prog 83 #[.agg #[.int .i64 k, .int .i64 y, .int .i64 t, .int .i64 l], .agg #[.int .i64 k', .int .i64 y', .int .i64 t', .int .i64 l']] w (Says (.tuple #[.int .i64 (betM k y t l k' y' t' l').1, .bool (betM k y t l k' y' t' l').2]) w) := by
  have cM := fun w => rmeet_any k y t l k' y' t' l' w
  unfold Says at cM ⊢
  unfold betM
  cases hm : meetB k y t l k' y' t' l' with
  | false =>
    rw [if_neg (by simp)]
    rw [hm] at cM
    clear hm
    have HK := hid (K2.first w k y t l k' y' t' l' 26 26)
    go_enter Tryz.func83, Tryz.ntmps83
    go_wp2_with fail
    refine (cM _).mono ?_
    rintro e w1 ⟨rfl, hb⟩
    have hk := HK.out.next hb
    clear hb HK
    obtain ⟨⟨x0, x1, x2, x3, _⟩, ⟨y0, y1, y2, y3, _⟩, _⟩ := id hk
    go_wp2
    go_ret2
    exact ⟨rfl, hk.b⟩
  | true =>
    rw [if_pos rfl]
    rw [hm] at cM
    obtain ⟨m1, m2, -, -⟩ : soundB k y t l = true ∧ soundB k' y' t' l' = true ∧ bits .and .i64 k k' ≠ 0 ∧ y = y' := of_decide_eq_true hm
    obtain ⟨s1, s2, s3, s4, s5⟩ := sound_of m1
    obtain ⟨r1, r2, r3, r4, r5⟩ := sound_of m2
    have four : ∃ D, max t t' - min (t + l) (t' + l') = D ∧ gapI t l t' l' = max D (-1) ∧ IntKind.i64.wrap D = D := by
      refine ⟨_, rfl, rfl, IntWalk.i64_in _ ?_⟩
      omega
    obtain ⟨D, hD, hG, hWD⟩ := four
    rw [hG]
    clear hm m1 m2 s1 r1 hG
    have HK := hid (K2.first w k y t l k' y' t' l' 26 26)
    go_enter Tryz.func83, Tryz.ntmps83
    go_wp2_with fail
    refine (cM _).mono ?_
    rintro e w1 ⟨rfl, hb⟩
    have hk := HK.out.next hb
    clear hb HK
    obtain ⟨⟨x0, x1, x2, x3, _⟩, ⟨y0, y1, y2, y3, _⟩, _⟩ := id hk
    go_wp2
    go_ret2
    exact ⟨rfl, hk.b⟩
set_option maxHeartbeats 2000000 in
theorem roverlap_any (k y t l k' y' t' l' : Int) (w : World) :
    Calls Tryz.prog 61 #[.agg #[.int .i64 k, .int .i64 y, .int .i64 t, .int .i64 l], .agg #[.int .i64 k', .int .i64 y', .int .i64 t', .int .i64 l']] w (Says (.bool (overB k y t l k' y' t' l')) w) := by
  have cB := fun w => rbetween_any k y t l k' y' t' l' w
  unfold Says overB at *
  generalize betM k y t l k' y' t' l' = R at cB ⊢
  obtain ⟨N, O⟩ := R
  dsimp only at cB ⊢
  cases O with
  | false =>
    have HK := hid (K2.first w k y t l k' y' t' l' 26 26)
    go_enter Tryz.func61, Tryz.ntmps61
    go_wp2_with fail
    refine (cB _).mono ?_
    rintro e w1 ⟨rfl, hb⟩
    have hk := HK.out.next hb
    clear hb HK
    obtain ⟨⟨x0, x1, x2, x3, _⟩, ⟨y0, y1, y2, y3, _⟩, _⟩ := id hk
    go_wp2
    go_ret
    exact ⟨rfl, hk.b⟩
  | true =>
    rw [Bool.true_and]
    by_cases hn : N < 0
    · have hnd : decide (N < 0) = true := decide_eq_true hn
      rw [hnd]
      have HK := hid (K2.first w k y t l k' y' t' l' 26 26)
      go_enter Tryz.func61, Tryz.ntmps61
      go_wp2_with fail
      refine (cB _).mono ?_
      rintro e w1 ⟨rfl, hb⟩
      have hk := HK.out.next hb
      clear hb HK
      obtain ⟨⟨x0, x1, x2, x3, _⟩, ⟨y0, y1, y2, y3, _⟩, _⟩ := id hk
      go_wp2
      go_ret
      exact ⟨rfl, hk.b⟩
    · have hnd : decide (N < 0) = false := decide_eq_false hn
      rw [hnd]
      have HK := hid (K2.first w k y t l k' y' t' l' 26 26)
      go_enter Tryz.func61, Tryz.ntmps61
      go_wp2_with fail
      refine (cB _).mono ?_
      rintro e w1 ⟨rfl, hb⟩
      have hk := HK.out.next hb
      clear hb HK
      obtain ⟨⟨x0, x1, x2, x3, _⟩, ⟨y0, y1, y2, y3, _⟩, _⟩ := id hk
      go_wp2
      go_ret
      exact ⟨rfl, hk.b⟩
end Go.Proofs.YtnpfmoalgphkcaaGreatDoor

