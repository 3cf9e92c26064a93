/-
  The walk of Dice.Times: times as they are made. Conditions: dice in memory; a grid of at most 100 days and slots, at most 20 weeks. The walk of Dice.Staff: .. Conditions: as stated.
-/
import Derived.Test.YtnpfmoalgphkcaaGreatDoorMM01
import Derived.Test.YtnpfmoalgphkcaaGreatDoorMM02
import Derived.Test.YtnpfmoalgphkcaaGreatDoorMM03
import Derived.Test.YtnpfmoalgphkcaaGreatDoorMM04
import Derived.Test.YtnpfmoalgphkcaaGreatDoorMM05
import Derived.Test.YtnpfmoalgphkcaaGreatDoorMM06
import Derived.Test.YtnpfmoalgphkcaaGreatDoorMM07
import Derived.Test.YtnpfmoalgphkcaaGreatDoorMM08
import Derived.Test.YtnpfmoalgphkcaaGreatDoorMM09
import Derived.Test.YtnpfmoalgphkcaaGreatDoorMM10
import Derived.Test.YtnpfmoalgphkcaaGreatDoorMM11
import Derived.Test.YtnpfmoalgphkcaaGreatDoorMM12
import Derived.Test.YtnpfmoalgphkcaaGreatDoorMM13
import Derived.Test.YtnpfmoalgphkcaaGreatDoorMM16
import Derived.Test.YtnpfmoalgphkcaaGreatDoorMM17
import Derived.Test.YtnpfmoalgphkcaaGreatDoorProg
import Derived.WalkKit
import Derived.WalkSpells
import Derived.WalkLawsBesides
import Derived.Lib.Hide
import Derived.Deep.QuietTactic
import Derived.BigQuiet
import Derived.Laws.Rows
import Derived.OwnWalk
import Derived.Lib.BufferWrite
import Derived.Lib.UnsafeStr
import Derived.Laws.IdiomStrings
import Derived.Laws.BytesArg
import Derived.Laws.BytesString
import Derived.Laws.OwnMore
import Derived.Lib.IndexLaws
import Derived.Lib.ItoaNum
import Derived.Lib.Atoi
import Derived.Lib.Bytealg
import Derived.Maps.OwnSet
import Derived.Maps.Range
import Derived.Deep.RegionLaw
import Derived.Deep.RegionHeld3
import Derived.Handy
import Derived.Laws.BitsAllLaws
import Derived.Laws.BitsLemmas
import Derived.Deep.MidRow
import Derived.Shelf.Strings.Builder1
import Derived.Shelf.Strings.Builder2
import Derived.Shelf.Strings.OnBuilder
import Derived.Shelf.Strings.BuilderF
import Derived.Shelf.Strings.BuilderK
import Derived.Shelf.Strings.Builder2Cap
import Derived.Shelf.Strconv.Atoi
import Derived.Shelf.Strconv.Itoa0
import Derived.Shelf.Strconv.Itoa1
import Derived.Shelf.LaysM
import Derived.Shelf.Strconv.Itoa2
import Derived.Shelf.Strconv.Itoa3
import Derived.Shelf.Strconv.AtoiErrFast
import Derived.Shelf.Strconv.ParseIntEmpty
import Derived.Shelf.Strconv.AtoiFail
import Derived.Shelf.Strconv.Clone
import Derived.Shelf.Strconv.SyntaxError
import Derived.Shelf.LaysC
import Derived.Shelf.Strconv.ToError
import Derived.Shelf.Strconv.AtoiErr
import Derived.Shelf.Strings.Search1
import Derived.Shelf.Strings.Search2
import Derived.Shelf.Strings.Search3
import Derived.Shelf.Strings.Cut
import Derived.Shelf.Strings.Shaped
import Derived.Shelf.Strings.Prefix
import Derived.Shelf.Unicode.DecodeSlow
import Derived.Shelf.Strings.BuilderCap
import Derived.Lib.AtoiErrMem
import Derived.RangeFuncNested
import Derived.RangeFuncBound
import Derived.RangeFuncCalls
import Derived.RangeFuncLeaves
import Derived.Shelf.Abstract
import Derived.Shelf.RegionOpen
import Derived.OwnWalkIn
import Derived.Lib.SlTrimSet
import Derived.Shelf.Strings.SlTrimAscii
import Derived.Laws.ResultCell
import Derived.RegionTactic
import Derived.Lib.Repeat
import Derived.Lib.SlicesS
import Derived.TacticsInMore
import Derived.LoopNIn
import Derived.LoopIn
import Derived.Deep.DeepCutAuto
import Derived.Lib.Join
import Derived.Laws.Concat
import Derived.Sort.EncStr
import Derived.IntWalk
import Derived.Maps.AppendAt
set_option linter.unusedVariables false
namespace Go.Proofs.YtnpfmoalgphkcaaGreatDoor
open Go Go.Proofs Go.RowKit Go.Lib
structure TT (w0 : World) (g c : Nat) (A : Option Addr) (L : List Int) (d s b m : Int) (n : Nat) (ts : List TimeD) (v : Value) (w : World) : Prop where
  x : Cells4 24 w w0.heap.size d s b m
  e : ∃ k, DE w0 g c A L k w
  r : TimeRow w (w0.heap.size + 1) v ts
  g0 : g < w0.heap.size
  ok : ∀ t ∈ ts, MadeT d s n t.1 t.2.1 t.2.2.1 t.2.2.2
section
variable {w0 w w' : World} {g c : Nat} {A : Option Addr} {L : List Int} {d s b m : Int} {n : Nat} {ts : List TimeD} {v v' : Value}
theorem TT.played {k' : Nat} (h : TT w0 g c A L d s b m n ts v w) (he : DE w g c A L k' w') : TT w0 g c A L d s b m n ts v w' := by
  obtain ⟨k, h0⟩ := h.e
  have hg := h.g0
  exact ⟨h.x.played he.p (by omega), ⟨k', h0.trans he⟩, he.p.row h.r (fun k hk => by have h1 := World.ownsRow.lt h.r k hk; omega), hg, h.ok⟩
theorem TT.app {t : TimeD} (h : TT w0 g c A L d s b m n ts v w) (hg : w.grownBy w' v.ownBlock) (hr : TimeRow w' (w0.heap.size + 1) v' (ts ++ [t])) (ht : MadeT d s n t.1 t.2.1 t.2.2.1 t.2.2.2) : TT w0 g c A L d s b m n (ts ++ [t]) v' w' := by
  obtain ⟨k, h0⟩ := h.e
  have hl := h.x.lt
  have hb : Below (w0.heap.size + 1) w w' := (Below.refl _ w).grown hg (by omega) (fun k hk => (World.ownsRow.lt h.r k hk).1)
  refine ⟨(hb.block _ (by omega)).trans h.x, ⟨k, h0.below (hb.mono (by omega)) h.g0⟩, hr, h.g0, fun x hx => ?_⟩
  rcases List.mem_append.1 hx with hx | hx
  · exact h.ok x hx
  · rw [List.mem_singleton] at hx; subst hx; exact ht
end
theorem TT.first {w : World} {g c k : Nat} {A : Option Addr} {L : List Int} (h : DiceAt w g A L c k) (d s b m : Int) (n : Nat) :
    TT w g c A L d s b m n [] (.slice none 0 0) (w.alloc (.cells #[.int .i64 d, .int .i64 s, .int .i64 b, .int .i64 m] 24)) :=
  ⟨Cells4.new w d s b m _, ⟨k, (DE.first h).alloc _⟩, World.ownsRow_nil _ _ _ _, h.lt, fun t ht => by simp at ht⟩
def TimesP (d s : Int) (n most : Nat) (g c : Nat) (A : Option Addr) (L : List Int) (w0 : World) (e : Ending) (w' : World) : Prop :=
  ∃ (ts : List TimeD) (v : Value) (k' : Nat), e = .returned v ∧ ts.length ≤ most ∧ (∀ t ∈ ts, MadeT d s n t.1 t.2.1 t.2.2.1 t.2.2.2) ∧ TimeRow w' w0.heap.size v ts ∧ DE w0 g c A L k' w'
set_option maxHeartbeats 16000000 in
set_option maxRecDepth 100000 in
theorem dtimes_any (g c k : Nat) (A : Option Addr) (L : List Int) (d s b m : Int) (n most : Nat) (h1 : 1 ≤ n) (h2 : n ≤ 20) (hd1 : 1 ≤ d) (hd2 : d ≤ 100) (hs1 : 1 ≤ s) (hs2 : s ≤ 100) (hm : most ≤ 100) (w : World) (h : DiceAt w g A L c k) :
    Calls Tryz.prog 53 #[.pointer (some ⟨g, 0, none⟩), .agg #[.int .i64 d, .int .i64 s, .int .i64 b, .int .i64 m], .int .i64 (n : Int), .int .i64 (most : Int)] w (TimesP d s n most g c A L w) := by
  obtain ⟨i9, hi9, hz9, hsi9, hby9⟩ := info_parts infoTime
  have H0 := hid (TT.first h d s b m n)
  have HT := hid (fun W k (h : DiceAt W g A L c k) => time_any g c k A L d s b m n h1 h2 hd1 hd2 hs1 hs2 W h)
  have HN := hid (fun (W : World) k q hq (h : DiceAt W g A L c k) => next_any g c k A L q hq W h)
  have qm : IntKind.i64.wrap ((most : Int) + 1) = (most : Int) + 1 := IntWalk.i64_in _ (by omega)
  clear h
  go_enter Tryz.func53, Tryz.ntmps53
  go_wp2_with fail
  generalize w.alloc (.cells #[.int .i64 d, .int .i64 s, .int .i64 b, .int .i64 m] 24) = w1 at H0 ⊢
  obtain ⟨k0, he0⟩ := H0.out.e
  refine (HN.out _ k0 ((most : Int) + 1) (by omega) he0.d).mono ?_
  rintro e w2 ⟨⟨r, rfl, hr⟩, ⟨k1, hd⟩, hR⟩
  obtain ⟨hr0, hr1⟩ := hr (by omega)
  obtain ⟨q0, rfl⟩ : ∃ q : Nat, r = (q : Int) := ⟨r.toNat, by omega⟩
  have HT2 := hid (H0.out.played ((DE.first he0.d).next hd hR))
  clear hr hd hR he0 H0 HN qm
  go_wp2
  go_loopw [9, 10] (fun v nv wr => ∃ (q : Nat) (ts : List TimeD) (Ar : Option Addr) (cr : Nat), v = .slice Ar ts.length cr ∧ nv = .int .i64 (q : Int) ∧ q + ts.length ≤ most ∧ Hid (TT w g c A L d s b m n ts (.slice Ar ts.length cr) wr)) (fun _ nv _ => (RowKit.intOf nv).toNat)
  case atStart => exact ⟨q0, [], none, 0, rfl, rfl, by simp; omega, HT2⟩
  case round =>
    obtain ⟨q, ts, Ar, cr, rfl, rfl, hq, hT⟩ := hrel
    by_cases hz : 0 < q
    · have hqz : (0 : Int) < (q : Int) := by omega
      have qm : IntKind.i64.wrap ((q : Int) - 1) = (q : Int) - 1 := IntWalk.i64_in _ (by omega)
      obtain ⟨g0, g1, g2, g3, _⟩ := hT.out.x.box
      obtain ⟨k2, he2⟩ := hT.out.e
      have cT := hid (HT.out _ _ he2.d)
      clear he2
      go_wp2_with fail
      refine cT.out.mono ?_
      rintro e w3 ⟨t1, t2, t3, t4, k3, rfl, hmt, he3⟩
      have HT3 := hid (hT.out.played he3)
      have HMT := hid hmt
      clear he3 hT cT g0 g1 g2 g3 hmt
      have HC3 : Hid (ts.length + 1 ≤ maxLen) := by unfold maxLen; exact hid (by omega)
      have HC4 : Hid ((ts.length + 1) * 32 ≤ 140737488355328) := hid (by omega)
      have HC5 : Hid (∀ o : Obj, w.heap.size + 1 ≤ (w3.alloc o).heap.size) := hid (fun o => by have := HT3.out.x.lt; simp; omega)
      have HR3 : Hid (∀ o : Obj, (w3.alloc o).ownsRow (w.heap.size + 1) 26 4 (.slice Ar ts.length cr) ts.length (timeVals ts)) := hid (fun o => World.ownsRow.alloc HT3.out.r o)
      go_wp2_with (at_builtin; refine wpList_append_own _ rfl _ _ 32 rfl (w.heap.size + 1) 26 i9 (.agg #[.int .i64 0, .int .i64 0, .int .i64 0, .int .i64 0]) 4 32 Tryz.underlying32 hi9 hz9 hsi9 hby9 rfl (by decide) _ ts.length (timeVals ts) rfl (HR3.out _) ⟨w3.heap.size, 0, none⟩ 1 1 (timeVs (t1, t2, t3, t4)) rfl rfl (four_new _ _ _ _ _ _) (times_one _) HC3.out HC4.out (HC5.out _) ?_)
      intro v' w4 hown' hgrow _
      have hg' := grownBy_of_alloc hgrow
      obtain ⟨A6, c6, rfl⟩ := S3.row_slice hown'
      have hrow6 : TimeRow w4 (w.heap.size + 1) (.slice A6 (ts.length + 1) c6) (ts ++ [(t1, t2, t3, t4)]) := by
        unfold TimeRow
        rw [timeVals_app, List.length_append]
        simpa [timeVals] using hown'
      have HT4 := hid (HT3.out.app hg' hrow6 HMT.out)
      clear hown' hgrow hg' hrow6 HT3 HC3 HC4 HC5 HR3
      go_wp2
      go_roundw
      case rel => exact ⟨q - 1, ts ++ [(t1, t2, t3, t4)], A6, c6, by simp, by congr 1; omega, by simp; omega, hid (by have := HT4.out; simpa using this)⟩
      case measure => simp [RowKit.intOf]; omega
    · have hqz : ¬ (0 : Int) < (q : Int) := by omega
      obtain ⟨k2, he2⟩ := hT.out.e
      have HR : Hid (TimesP d s n most g c A L w (.returned (.slice Ar ts.length cr)) wr) := hid ⟨ts, _, k2, rfl, by omega, hT.out.ok, TimeRow.mono hT.out.r (by omega), he2⟩
      clear he2 hT
      go_wp2
      go_ret
      exact HR.out
theorem step_append_own_at {P : Program} {ops : Array Oper} {o : Oper} {a : Act} {w : World} {K : Act → World → Prop} {Q : Exit → Act → World → Prop} {E : Prop}
    (hg : o.guard = none) (s x : Operand) (t : TypeId) (hop : o.op = Op.call { callee := Callee.builtin Builtin.append, args := #[s, x], argTypes := #[t, t] })
    (B : Nat) (e : TypeId) (i : TypeInfo) (z : Value) (size bytes : Nat) (h1 : P.underlying t = some (.slice e)) (h2 : P.info? e = some i) (h3 : i.zero = some z) (h4 : i.size = size) (h5 : i.bytes = bytes) (h6 : z.cells.size = size) (h7 : 0 < size)
    (v : Value) (n : Nat) (xs : List Value) (hs : a.eval s = v) (hown : w.ownsRow B e size v n xs)
    (ad : Addr) (m c : Nat) (news : List Value) (hx : a.eval x = .slice (some ad) m c) (hn : news.length = m * size) (hc : ∀ j u, news[j]? = some u → w.cell? (ad.add j) = some u) (h1c : ∀ u ∈ news, u.oneCell' = true)
    (b1 : n + m ≤ maxLen) (b2 : (n + m) * bytes ≤ 140737488355328) (hB : B ≤ w.heap.size)
    (hK : ∀ v' w', w'.ownsRow B e size v' (n + m) (xs ++ news) → w.grownBy w' v.ownBlock → (v'.ownBlock = v.ownBlock ∨ v'.ownBlock = some w.heap.size) → K (a.put o.dst v') w') :
    if Region.wanted o (yielded ops a.tmps) = true then Oper.wp P o a w K Q else E := by
  have hw : Region.wanted o (yielded ops a.tmps) = true := by simp [Region.wanted, hg]
  rw [if_pos hw]
  obtain ⟨v', w', hrun, r1, r2, _, r3⟩ := run_append_own_at (P := P) (w := w) B t o.type e i z size bytes h1 h2 h3 h4 h5 h6 h7 v n xs hown ad m c news hn hc h1c b1 b2 hB
  unfold Oper.wp
  simp [execOp, hop, resolve, invoke, builtin, hs, hx, hrun, Result.andThen]
  exact hK v' w' r1 r2 r3
theorem row_low {w : World} {e z n B B' : Nat} {v : Value} {xs : List Value} (h : w.ownsRow B e z v n xs) (hB : B' ≤ B) : w.ownsRow B' e z v n xs := by
  obtain ⟨h1, h2⟩ := h
  refine ⟨h1, ?_⟩
  rcases h2 with h2 | ⟨g, cap, cur, hv, hg, r⟩
  · exact .inl h2
  · exact .inr ⟨g, cap, cur, hv, Nat.le_trans hB hg, r⟩
def personS : Nat → Str
  | 0 => [97, 100, 97]
  | 1 => [98, 111, 98]
  | 2 => [99, 121]
  | _ => []
structure PeopleAt (w : World) (PB po pc : Nat) : Prop where
  c0 : w.cell? ⟨0, 0, none⟩ = some (.slice (some ⟨PB, po, none⟩) 3 pc)
  cs : ∀ j, j < 3 → w.cell? ⟨PB, po + j, none⟩ = some (.string (ba (personS j)))
theorem PeopleAt.kept {w w' : World} {PB po pc : Nat} (h : PeopleAt w PB po pc) (h1 : w'.heap[0]? = w.heap[0]?) (h2 : w'.heap[PB]? = w.heap[PB]?) : PeopleAt w' PB po pc :=
  ⟨(World.cell?_of_block (w := w) h1).trans h.c0, fun j hj => (World.cell?_of_block (w := w) h2).trans (h.cs j hj)⟩
structure StaffOk (d s : Int) (n : Nat) (ls : List LectD) : Prop where
  len : ls.length ≤ 3
  at_ : ∀ (j : Nat) (x : LectD), ls[j]? = some x → x.1 = personS j ∧ x.2.length ≤ 2 ∧ ∀ t ∈ x.2, MadeT d s n t.1 t.2.1 t.2.2.1 t.2.2.2
theorem StaffOk.app {d s : Int} {n : Nat} {ls : List LectD} {x : LectD} (h : StaffOk d s n ls) (hl : ls.length < 3) (hx : x.1 = personS ls.length ∧ x.2.length ≤ 2 ∧ ∀ t ∈ x.2, MadeT d s n t.1 t.2.1 t.2.2.1 t.2.2.2) : StaffOk d s n (ls ++ [x]) := by
  refine ⟨by simp; omega, fun j y hj => ?_⟩
  rcases Nat.lt_trichotomy j ls.length with k | k | k
  · rw [List.getElem?_append_left k] at hj
    exact h.at_ j y hj
  · subst k
    rw [List.getElem?_append_right (Nat.le_refl _)] at hj
    simp at hj
    subst hj
    exact hx
  · rw [List.getElem?_append_right (by omega)] at hj
    rw [List.getElem?_eq_none (by simp; omega)] at hj
    simp at hj
structure SS (w0 : World) (g c : Nat) (A : Option Addr) (L : List Int) (d s b m : Int) (n PB po pc : Nat) (ls : List LectD) (v : Value) (w : World) : Prop where
  x : Cells4 24 w w0.heap.size d s b m
  e : ∃ k, DE w0 g c A L k w
  row : ∃ Lr : List (LectD × LectA), Lr.map (·.1) = ls ∧ w.ownsRow (w0.heap.size + 1) 34 2 v Lr.length (lectVals Lr) ∧ ∀ p ∈ Lr, LectIn w (fun k => w0.heap.size + 1 ≤ k ∧ k < w.heap.size ∧ some k ≠ v.ownBlock) p.1 p.2
  p : PeopleAt w PB po pc
  g0 : g < w0.heap.size
  g1 : 0 < g
  g2 : PB < g
  ok : StaffOk d s n ls
section
variable {w0 w w' : World} {g c : Nat} {A : Option Addr} {L : List Int} {d s b m : Int} {n PB po pc : Nat} {ls : List LectD} {v v' : Value}
theorem SS.played {k' : Nat} (h : SS w0 g c A L d s b m n PB po pc ls v w) (he : DE w g c A L k' w') : SS w0 g c A L d s b m n PB po pc ls v w' := by
  obtain ⟨k, h0⟩ := h.e
  have hg := h.g0
  have hg1 := h.g1
  have hg2 := h.g2
  have hl := h.x.lt
  have hz := he.p.size
  obtain ⟨Lr, hL, ho, hr⟩ := h.row
  exact ⟨h.x.played he.p (by omega), ⟨k', h0.trans he⟩, ⟨Lr, hL, he.p.row ho (fun k hk => by have h1 := World.ownsRow.lt ho k hk; omega), fun q hq => ((hr q hq).kept (fun k hk => he.p.block k hk.2.1 (by omega))).mono (fun k hk => ⟨hk.1, by omega, hk.2.2⟩)⟩,
    h.p.kept (he.p.block _ (by omega) (by omega)) (he.p.block _ (by omega) (by omega)), hg, hg1, hg2, h.ok⟩
theorem SS.next (h : SS w0 g c A L d s b m n PB po pc ls v w) (k : Below w.heap.size w w') : SS w0 g c A L d s b m n PB po pc ls v w' := by
  obtain ⟨j, h0⟩ := h.e
  have hg := h.g0
  have hg1 := h.g1
  have hg2 := h.g2
  have hl := h.x.lt
  have hz := k.size
  obtain ⟨Lr, hL, ho, hr⟩ := h.row
  exact ⟨h.x.under k, ⟨j, h0.below (k.mono (by omega)) hg⟩, ⟨Lr, hL, row_under ho k, fun q hq => ((hr q hq).kept (fun i hi => k.block i hi.2.1)).mono (fun i hi => ⟨hi.1, by omega, hi.2.2⟩)⟩,
    h.p.kept (k.block _ (by omega)) (k.block _ (by omega)), hg, hg1, hg2, h.ok⟩
theorem SS.cells (h : SS w0 g c A L d s b m n PB po pc ls v w) {i : Nat} (hi : i < 3) :
    w.cell? ⟨0, 0, none⟩ = some (.slice (some ⟨PB, po, none⟩) 3 pc) ∧ w.cell? ⟨PB, po + i, none⟩ = some (.string (ba (personS i))) ∧ w.cell? ⟨w0.heap.size, 0, none⟩ = some (.int .i64 d) ∧ w.cell? ⟨w0.heap.size, 1, none⟩ = some (.int .i64 s) ∧ w.cell? ⟨w0.heap.size, 2, none⟩ = some (.int .i64 b) ∧ w.cell? ⟨w0.heap.size, 3, none⟩ = some (.int .i64 m) :=
  ⟨h.p.c0, h.p.cs i hi, h.x.box.c0, h.x.box.c1, h.x.box.c2, h.x.box.c3⟩
theorem SS.dice (h : SS w0 g c A L d s b m n PB po pc ls v w) : ∃ k, DiceAt w g A L c k := by
  obtain ⟨k, h0⟩ := h.e
  exact ⟨k, h0.d⟩
theorem SS.app {r : LectD} {q : LectA} {C : Nat} (h : SS w0 g c A L d s b m n PB po pc ls v w)
    (hr' : LectIn w (fun k => C ≤ k ∧ k < w.heap.size) r q) (hC : w0.heap.size + 1 ≤ C) (h1 : ∀ k, v.ownBlock = some k → k < C)
    {Lr : List (LectD × LectA)} (hL : Lr.map (·.1) = ls) (ho : w.ownsRow (w0.heap.size + 1) 34 2 v Lr.length (lectVals Lr)) (hr : ∀ p ∈ Lr, LectIn w (fun k => w0.heap.size + 1 ≤ k ∧ k < w.heap.size ∧ some k ≠ v.ownBlock) p.1 p.2)
    (hown : w'.ownsRow (w0.heap.size + 1) 34 2 v' (Lr.length + 1) (lectVals Lr ++ lectVs r q))
    (hg : w.grownBy w' v.ownBlock) (hat : v'.ownBlock = v.ownBlock ∨ v'.ownBlock = some w.heap.size) (hk : StaffOk d s n (ls ++ [r])) : SS w0 g c A L d s b m n PB po pc (ls ++ [r]) v' w' := by
  obtain ⟨j, h0⟩ := h.e
  have hg0 := h.g0
  have hg1 := h.g1
  have hg2 := h.g2
  have hl := h.x.lt
  have hs := hg.size
  have hb : Below (w0.heap.size + 1) w w' := (Below.refl _ w).grown hg (by omega) (fun k hk => (World.ownsRow.lt ho k hk).1)
  have hne : ∀ k, k < w.heap.size → some k ≠ v.ownBlock → some k ≠ v'.ownBlock := by
    intro k hk hne
    rcases hat with e | e
    · rw [e]; exact hne
    · rw [e]; intro e0; injection e0 with e0; omega
  refine ⟨(hb.block _ (by omega)).trans h.x, ⟨j, h0.below (hb.mono (by omega)) hg0⟩, ⟨Lr ++ [(r, q)], by rw [List.map_append, hL]; rfl, ?_, fun p hp' => ?_⟩, h.p.kept (hb.block _ (by omega)) (hb.block _ (by omega)), hg0, hg1, hg2, hk⟩
  · rw [lectVals_app, List.length_append, List.length_singleton]
    simpa [lectVals] using hown
  · rcases List.mem_append.1 hp' with hp' | hp'
    · exact ((hr p hp').kept (fun k hk => hg.block k hk.2.1 hk.2.2)).mono (fun k hk => ⟨hk.1, by omega, hne k hk.2.1 hk.2.2⟩)
    · rw [List.mem_singleton] at hp'
      subst hp'
      have k1 : ∀ k, C ≤ k → some k ≠ v.ownBlock := fun k hk e => by have := h1 k e.symm; omega
      exact (hr'.kept (fun k hk => hg.block k hk.2 (k1 k hk.1))).mono (fun k hk => ⟨by omega, by omega, hne k hk.2 (k1 k hk.1)⟩)
end
theorem SS.first {w : World} {g c k PB po pc : Nat} {A : Option Addr} {L : List Int} (h : DiceAt w g A L c k) (d s b m : Int) (n : Nat) (hp : PeopleAt w PB po pc) (h1 : 0 < g) (h2 : PB < g) :
    SS w g c A L d s b m n PB po pc [] (.slice none 0 0) (w.alloc (.cells #[.int .i64 d, .int .i64 s, .int .i64 b, .int .i64 m] 24)) := by
  have hl := h.lt
  exact ⟨Cells4.new w d s b m _, ⟨k, (DE.first h).alloc _⟩, ⟨[], rfl, World.ownsRow_nil _ _ _ _, fun p hp => by simp at hp⟩, hp.kept (heap_alloc_old w _ (by omega)) (heap_alloc_old w _ (by omega)), hl, h1, h2, ⟨by simp, fun j x hj => by simp at hj⟩⟩
theorem lect_cells (w : World) (v0 v1 : Value) : ∀ (j : Nat) (u : Value), [v0, v1][j]? = some u → (w.alloc (.cells #[v0, v1] 34)).cell? ((⟨w.heap.size, 0, none⟩ : Addr).add j) = some u := by
  intro j u h
  obtain ⟨k0, k1⟩ := (Box2.new w v0 v1).cells
  rw [Addr.add_lit]
  match j, h with
  | 0, h => exact k0.trans h
  | 1, h => exact k1.trans h
  | j + 2, h => simp at h
def StaffP (d s : Int) (n : Nat) (g c : Nat) (A : Option Addr) (L : List Int) (w0 : World) (e : Ending) (w' : World) : Prop :=
  ∃ (ls : List LectD) (v : Value) (k' : Nat), e = .returned v ∧ StaffOk d s n ls ∧ LectRow w' w0.heap.size (fun k => w0.heap.size ≤ k ∧ k < w'.heap.size) v ls ∧ DE w0 g c A L k' w'
set_option maxHeartbeats 16000000 in
set_option maxRecDepth 100000 in
theorem dstaff_any (g c k PB po pc : Nat) (A : Option Addr) (L : List Int) (d s b m : Int) (n : Nat) (h1 : 1 ≤ n) (h2 : n ≤ 20) (hd1 : 1 ≤ d) (hd2 : d ≤ 100) (hs1 : 1 ≤ s) (hs2 : s ≤ 100) (w : World) (h : DiceAt w g A L c k)
    (hp : PeopleAt w PB po pc) (hg1 : 0 < g) (hg2 : PB < g) :
    Calls Tryz.prog 24 #[.pointer (some ⟨g, 0, none⟩), .agg #[.int .i64 d, .int .i64 s, .int .i64 b, .int .i64 m], .int .i64 (n : Int)] w (StaffP d s n g c A L w) := by
  obtain ⟨i5, hi5, hz5, hsi5, hby5⟩ := info_parts infoLect
  have H0 := hid (SS.first h d s b m n hp hg1 hg2)
  have HT : Hid (∀ (W : World) (r : Nat), r ≤ 2 → (∃ k, DiceAt W g A L c k) → Calls Tryz.prog 53 #[.pointer (some ⟨g, 0, none⟩), .agg #[.int .i64 d, .int .i64 s, .int .i64 b, .int .i64 m], .int .i64 (n : Int), .int .i64 (r : Int)] W fun e w' =>
      ∃ (ts : List TimeD) (At : Option Addr) (ct : Nat), e = .returned (.slice At ts.length ct) ∧ (ts.length ≤ 2 ∧ (∀ t ∈ ts, MadeT d s n t.1 t.2.1 t.2.2.1 t.2.2.2)) ∧ (∀ X : Str, LectIn w' (fun k => W.heap.size ≤ k ∧ k < w'.heap.size) (X, ts) (At, ct)) ∧ ∃ k', DE W g c A L k' w') := hid (fun W r hr ⟨k, hd⟩ => by
    refine (dtimes_any g c k A L d s b m n r h1 h2 hd1 hd2 hs1 hs2 (by omega) W hd).mono ?_
    rintro e w' ⟨ts, v, k', rfl, hlen, hok, hrow, he⟩
    obtain ⟨At, ct, rfl, e1, e2, e3⟩ := TimeRow.timesIn hrow (fun t ht => by have := (hok t ht).2.2.1; omega)
    exact ⟨ts, At, ct, rfl, ⟨by omega, hok⟩, fun X => ⟨e3, e1, e2⟩, k', he⟩)
  have HN : Hid (∀ (W : World) (q : Int), 1 ≤ q → q ≤ 4294967296 → (∃ k, DiceAt W g A L c k) → Calls Tryz.prog 23 #[.pointer (some ⟨g, 0, none⟩), .int .i64 q] W fun e w' => ∃ r : Nat, e = .returned (.int .i64 (r : Int)) ∧ (r : Int) < q ∧ ∃ k', DE W g c A L k' w') := hid (fun W q hq hq2 ⟨k, hd⟩ => by
    refine (next_any g c k A L q hq2 W hd).mono ?_
    rintro e w' ⟨⟨r, rfl, hr⟩, ⟨k', hd'⟩, hR⟩
    obtain ⟨hr0, hr1⟩ := hr hq
    obtain ⟨q0, rfl⟩ : ∃ q : Nat, r = (q : Int) := ⟨r.toNat, by omega⟩
    exact ⟨q0, rfl, hr1, k', (DE.first hd).next hd' hR⟩)
  clear h hp
  go_enter Tryz.func24, Tryz.ntmps24
  go_wp2_with fail
  generalize w.alloc (.cells #[.int .i64 d, .int .i64 s, .int .i64 b, .int .i64 m] 24) = w1 at H0 ⊢
  refine (HN.out _ 4 (by omega) (by omega) H0.out.dice).mono ?_
  rintro e w2 ⟨q0, rfl, hq0, k1, he1⟩
  have HT2 := hid (H0.out.played he1)
  clear he1 H0
  go_wp2
  go_loopw [7, 8] (fun v nv wr => ∃ (q i : Nat) (ls : List LectD) (Ar : Option Addr) (cr : Nat), v = .slice Ar i cr ∧ nv = .int .i64 (q : Int) ∧ q + i ≤ 3 ∧ Hid (ls.length = i) ∧ Hid (SS w g c A L d s b m n PB po pc ls (.slice Ar i cr) wr)) (fun _ nv _ => (RowKit.intOf nv).toNat)
  case atStart => exact ⟨q0, 0, [], none, 0, rfl, rfl, by omega, hid rfl, HT2⟩
  case round =>
    obtain ⟨q, i, ls, Ar, cr, rfl, rfl, hq, hli, hS⟩ := hrel
    by_cases hz : 0 < q
    · have hqz : (0 : Int) < (q : Int) := by omega
      have qm : IntKind.i64.wrap ((q : Int) - 1) = (q : Int) - 1 := IntWalk.i64_in _ (by omega)
      have hi3 : (i : Int) < 3 := by omega
      have hi3n : i < 3 := by omega
      have HC : Hid (w.heap.size + 1 ≤ wr.heap.size) := hid (by have := hS.out.x.lt; omega)
      obtain ⟨Lr, hL, ho, hr⟩ := hS.out.row
      have hl0 : Lr.length = i := by rw [← hli.out, ← hL, List.length_map]
      have HV : Hid (∀ k, (Value.slice Ar i cr).ownBlock = some k → k < wr.heap.size) := hid (fun k hk => (World.ownsRow.lt ho k hk).2)
      have HM1 : Hid (i + 1 ≤ maxLen) := by unfold maxLen; exact hid (by omega)
      have HM2 : Hid ((i + 1) * 40 ≤ 140737488355328) := hid (by omega)
      clear Lr hL ho hr hl0
      go_upto_region 5 with fail
      have hk' : SS w g c A L d s b m n PB po pc ls (.slice Ar i cr) wr.drew := hS.out.next (Below.refl _ wr).drew
      have HZ : Hid (wr.heap.size ≤ wr.drew.heap.size) := hid (Below.refl wr.heap.size wr).drew.size
      go_region_held3 (fun w' => w'.cell? ⟨0, 0, none⟩ = some (.slice (some ⟨PB, po, none⟩) 3 pc) ∧ w'.cell? ⟨PB, po + i, none⟩ = some (.string (ba (personS i))) ∧ w'.cell? ⟨w.heap.size, 0, none⟩ = some (.int .i64 d) ∧ w'.cell? ⟨w.heap.size, 1, none⟩ = some (.int .i64 s) ∧ w'.cell? ⟨w.heap.size, 2, none⟩ = some (.int .i64 b) ∧ w'.cell? ⟨w.heap.size, 3, none⟩ = some (.int .i64 m))
        (first | with_reducible exact hk'.cells hi3n | with_reducible exact (hk'.next ((Below.refl _ _).alloc (Nat.le_refl _) _)).cells hi3n)
        (first
          | (go_at_call 23; refine (HN.out _ 3 (by omega) (by omega) hk'.dice).mono ?_; rintro e wN ⟨r, rfl, hr3, kN, heN⟩; have HZN := hid (Nat.le_trans HZ.out heN.p.size); have hk' := hk'.played heN; clear heN)
          | (go_at_call 53; refine (HT.out _ r (by omega) hk'.dice).mono ?_; rintro e wT ⟨ts, At, ct, rfl, hts, hin, kT, heT⟩; have HTS := hid hts; have HIN := hid (fun X => (hin X).mono (P' := fun k => wr.heap.size ≤ k ∧ k < wT.heap.size) (fun k hk => ⟨Nat.le_trans HZN.out hk.1, hk.2⟩)); have hk' := hk'.played heT; clear heT hts hin)
          | (obtain ⟨Lr, hL, ho, hr⟩ := (hk'.next ((Below.refl _ wT).alloc (Nat.le_refl _) (.cells #[.string (ba (personS i)), .slice At ts.length ct] 34))).row
             have hl0 : Lr.length = i := by rw [← hli.out, ← hL, List.length_map]
             have ho' := ho
             rw [hl0] at ho'
             refine step_append_own_at rfl (.tmp 15) (.tmp 28) 22 rfl (w.heap.size + 1) 34 i5 (.agg #[.string ⟨#[]⟩, .slice none 0 0]) 2 40 Tryz.underlying22 hi5 hz5 hsi5 hby5 rfl (by decide) (.slice Ar i cr) i (lectVals Lr) (by simp [Act.eval]) ho' ⟨wT.heap.size, 0, none⟩ 1 1 [.string (ba (personS i)), .slice At ts.length ct] (by simp [Act.eval]) rfl (lect_cells wT _ _) (S9.lect_one (personS i, ts) (At, ct)) HM1.out HM2.out (by have := hk'.x.lt; simp; omega) ?_
             intro v' wA hown hgrow hat
             obtain ⟨gA, cA, rfl⟩ := ownsRow_succ (k := i) hown
             have HA := hid (SS.app (C := wr.heap.size) (r := (personS i, ts)) (q := (At, ct)) (hk'.next ((Below.refl _ wT).alloc (Nat.le_refl _) (.cells #[.string (ba (personS i)), .slice At ts.length ct] 34))) (((HIN.out (personS i)).kept (fun k hk => heap_alloc_old wT _ hk.2)).mono (fun k hk => ⟨hk.1, by simp; omega⟩)) HC.out HV.out hL ho hr (by rw [hl0]; exact hown) hgrow hat (hk'.ok.app (by rw [hli.out]; exact hi3n) ⟨by rw [hli.out], HTS.out.1, HTS.out.2⟩))
             clear hown hgrow hat hL ho hr ho' hl0
             have hk' := HA.out))
      all_goals
        go_wp2
        go_roundw
        case rel => exact ⟨q - 1, i + 1, ls ++ [(personS i, ts)], _, _, rfl, by congr 1; omega, by omega, hid (by rw [List.length_append, hli.out]; rfl), HA⟩
        case measure => simp [RowKit.intOf]; omega
    · have hqz : ¬ (0 : Int) < (q : Int) := by omega
      obtain ⟨k2, he2⟩ := hS.out.e
      obtain ⟨Lr, hL, ho, hr⟩ := hS.out.row
      have hl0 : Lr.length = ls.length := by rw [← hL, List.length_map]
      have HR : Hid (StaffP d s n g c A L w (.returned (.slice Ar i cr)) wr) := hid ⟨ls, _, k2, rfl, hS.out.ok, ⟨Lr, hL, by rw [← hl0]; exact row_low ho (by omega), fun p hp => (hr p hp).mono (fun k hk => ⟨by omega, hk.2.1⟩)⟩, he2⟩
      clear he2 hS hL ho hr hl0
      go_wp2
      go_ret
      exact HR.out
theorem own_set {w : World} {B : Nat} {e : TypeId} {size n cap g : Nat} {xs : List Value} (h : w.ownsRow B e size (.slice (some ⟨g, 0, none⟩) n cap) n xs) (hn : 0 < n) (i : Nat) (u : Value) : (w.setCell ⟨g, i, none⟩ u).ownsRow B e size (.slice (some ⟨g, 0, none⟩) n cap) n (xs.set i u) := by
  obtain ⟨h1, h2⟩ := h
  refine ⟨by rw [List.length_set]; exact h1, ?_⟩
  rcases h2 with ⟨h2, _⟩ | ⟨g', cap', cur, hv, hB, hg, k1, k2, k3, k4⟩
  · injection h2 with h2; injection h2
  · injection hv with hv _ hc
    injection hv with hv
    injection hv with hv
    subst hv hc
    refine .inr ⟨g, cap, _, rfl, hB, heap_setCell_same w g i _ _ _ hg, k1, k2, by simpa using k3, ?_⟩
    rw [Array.toList_setIfInBounds, List.take_set, k4]
theorem own_free {w : World} {B : Nat} {e : TypeId} {size n cap g : Nat} {xs : List Value} (h : w.ownsRow B e size (.slice (some ⟨g, 0, none⟩) n cap) n xs) (j : Nat) : w.frozen? ⟨g, j, none⟩ = false := by
  rcases h.2 with ⟨h2, _⟩ | ⟨g', cap', cur, hv, hB, hg, _⟩
  · injection h2 with h2; injection h2
  · injection hv with hv _ hc
    injection hv with hv
    injection hv with hv
    subst hv
    simp [World.frozen?, hg]
theorem lectVals_cons (p : LectD × LectA) (r : List (LectD × LectA)) : lectVals (p :: r) = .string (ba p.1.1) :: .slice p.2.1 p.1.2.length p.2.2 :: lectVals r := by simp [lectVals, lectVs]
theorem lectVals_set0 : ∀ (LL : List (LectD × LectA)) (k : Nat) (h : k < LL.length) (X : Str), (lectVals LL).set (k * 2) (.string (ba X)) = lectVals (LL.set k ((X, LL[k].1.2), LL[k].2))
  | p :: r, 0, _, X => by rw [lectVals_cons]; exact (lectVals_cons ((X, p.1.2), p.2) r).symm
  | p :: r, k + 1, h, X => by
    have ih := lectVals_set0 r k (by simpa using h) X
    rw [List.set_cons_succ, lectVals_cons, lectVals_cons, show (k + 1) * 2 = k * 2 + 1 + 1 by omega, List.set_cons_succ, List.set_cons_succ, ih]
    rfl
theorem lectVals_set1 : ∀ (LL : List (LectD × LectA)) (k : Nat) (h : k < LL.length) (ts : List TimeD) (q : LectA), (lectVals LL).set (k * 2 + 1) (.slice q.1 ts.length q.2) = lectVals (LL.set k ((LL[k].1.1, ts), q))
  | p :: r, 0, _, ts, q => by rw [lectVals_cons]; exact (lectVals_cons ((p.1.1, ts), q) r).symm
  | p :: r, k + 1, h, ts, q => by
    have ih := lectVals_set1 r k (by simpa using h) ts q
    rw [List.set_cons_succ, lectVals_cons, lectVals_cons, show (k + 1) * 2 + 1 = k * 2 + 1 + 1 + 1 by omega, List.set_cons_succ, List.set_cons_succ, ih]
    rfl
structure OS (w0 : World) (g c : Nat) (A : Option Addr) (L : List Int) (LL : List (LectD × LectA)) (v : Value) (w : World) : Prop where
  e : ∃ k, DE w0 g c A L k w
  row : w.ownsRow w0.heap.size 34 2 v LL.length (lectVals LL)
  r : ∀ p ∈ LL, LectIn w (fun k => g < k ∧ k < w.heap.size ∧ some k ≠ v.ownBlock) p.1 p.2
  g0 : g < w0.heap.size
section
variable {w0 w w' : World} {g c : Nat} {A : Option Addr} {L : List Int} {LL : List (LectD × LectA)} {v v' : Value}
theorem OS.played {k' : Nat} (h : OS w0 g c A L LL v w) (he : DE w g c A L k' w') : OS w0 g c A L LL v w' := by
  obtain ⟨k, h0⟩ := h.e
  have hg := h.g0
  have hz := he.p.size
  exact ⟨⟨k', h0.trans he⟩, he.p.row h.row (fun k hk => by have h1 := World.ownsRow.lt h.row k hk; omega), fun p hp => ((h.r p hp).kept (fun k hk => he.p.block k hk.2.1 (by omega))).mono (fun k hk => ⟨hk.1, by omega, hk.2.2⟩), hg⟩
theorem OS.next (h : OS w0 g c A L LL v w) (k : Below w.heap.size w w') : OS w0 g c A L LL v w' := by
  obtain ⟨j, h0⟩ := h.e
  have hg := h.g0
  have hz := k.size
  have hp0 := h0.p.size
  exact ⟨⟨j, h0.below (k.mono hp0) hg⟩, row_under h.row k, fun p hp => ((h.r p hp).kept (fun i hi => k.block i hi.2.1)).mono (fun i hi => ⟨hi.1, by omega, hi.2.2⟩), hg⟩
theorem OS.dice (h : OS w0 g c A L LL v w) : ∃ k, DiceAt w g A L c k := by
  obtain ⟨k, h0⟩ := h.e
  exact ⟨k, h0.d⟩
end
def OddP (g c : Nat) (A : Option Addr) (L : List Int) (w0 : World) (e : Ending) (w' : World) : Prop :=
  ∃ (ls : List LectD) (A' : Option Addr) (c' : Nat), e = .returned (.slice A' ls.length c') ∧ ls.length ≤ 1000 ∧ LectsIn w' (fun k => g < k ∧ k < w'.heap.size) A' ls ∧ ∃ k', DE w0 g c A L k' w'
theorem OS.fin {w0 w : World} {g c : Nat} {A : Option Addr} {L : List Int} {LL : List (LectD × LectA)} {v : Value} (h : OS w0 g c A L LL v w) (hl : LL.length ≤ 1000) : OddP g c A L w0 (.returned v) w := by
  have hg := h.g0
  have hrow : LectRow w w0.heap.size (fun k => g < k ∧ k < w.heap.size) v (LL.map (·.1)) := ⟨LL, rfl, by rw [List.length_map]; exact h.row, fun p hp => (h.r p hp).mono (fun k hk => ⟨hk.1, hk.2.1⟩)⟩
  obtain ⟨A', c', rfl, _, _, hin⟩ := hrow.lectsIn
  exact ⟨LL.map (·.1), A', c', rfl, by rw [List.length_map]; exact hl, hin.mono (fun k hk => by rcases hk with h | h; exact h; exact ⟨by omega, h.2⟩), h.e⟩
theorem OS.copy {w w' : World} {g c k : Nat} {A : Option Addr} {L : List Int} {LL : List (LectD × LectA)} {v' : Value} (h : DiceAt w g A L c k) (hr : ∀ p ∈ LL, LectIn w (fun k => g < k ∧ k < w.heap.size) p.1 p.2)
    (hown : w'.ownsRow w.heap.size 34 2 v' LL.length (lectVals LL)) (hg : w.grownBy w' none) : OS w g c A L LL v' w' := by
  have hb : Below w.heap.size w w' := (Below.refl _ w).grown hg (Nat.le_refl _) (fun k hk => by cases hk)
  have hz := hb.size
  exact ⟨⟨k, (DE.first h).below hb h.lt⟩, hown, fun p hp => ((hr p hp).kept (fun k hk => hb.block k hk.2)).mono (fun k hk => ⟨hk.1, by omega, fun e => by have := World.ownsRow.lt hown k e.symm; omega⟩), h.lt⟩
theorem OS.store {w0 w : World} {g c gv n cap : Nat} {A : Option Addr} {L : List Int} {LL LL' : List (LectD × LectA)} {i : Nat} {u : Value} (h : OS w0 g c A L LL (.slice (some ⟨gv, 0, none⟩) n cap) w) (hn : n = LL.length) (hn0 : 0 < n) (hLL : (lectVals LL).set i u = lectVals LL') (hl : LL'.length = LL.length)
    (hr : ∀ p ∈ LL', p ∈ LL ∨ LectIn w (fun k => g < k ∧ k < w.heap.size ∧ k ≠ gv) p.1 p.2) : OS w0 g c A L LL' (.slice (some ⟨gv, 0, none⟩) n cap) (w.setCell ⟨gv, i, none⟩ u) := by
  obtain ⟨j, h0⟩ := h.e
  have hg := h.g0
  have hlt := World.ownsRow.lt h.row gv rfl
  have hs : (w.setCell ⟨gv, i, none⟩ u).heap.size = w.heap.size := by simp [World.setCell]
  refine ⟨⟨j, h0.set _ _ _ hlt.1 (by omega)⟩, ?_, fun p hp => ?_, hg⟩
  · rw [hl, ← hLL]
    have h1 := h.row
    rw [← hn] at h1 ⊢
    exact own_set h1 hn0 i u
  · have h1 : LectIn w (fun k => g < k ∧ k < w.heap.size ∧ k ≠ gv) p.1 p.2 := by
      rcases hr p hp with h1 | h1
      · exact (h.r p h1).mono (fun k hk => ⟨hk.1, hk.2.1, fun e => hk.2.2 (by rw [e]; rfl)⟩)
      · exact h1
    exact (h1.kept (fun k hk => Below.heap_setCell w ⟨gv, i, none⟩ u k hk.2.2)).mono (fun k hk => ⟨hk.1, by rw [hs]; exact hk.2.1, fun e => hk.2.2 (by injection e)⟩)
theorem OS.app {w0 w w' : World} {g c : Nat} {A : Option Addr} {L : List Int} {LL : List (LectD × LectA)} {v v' : Value} {p : LectD × LectA} (h : OS w0 g c A L LL v w) (hp : p ∈ LL)
    (hown : w'.ownsRow w0.heap.size 34 2 v' (LL.length + 1) (lectVals LL ++ lectVs p.1 p.2)) (hg : w.grownBy w' v.ownBlock) (hat : v'.ownBlock = v.ownBlock ∨ v'.ownBlock = some w.heap.size) : OS w0 g c A L (LL ++ [p]) v' w' := by
  obtain ⟨j, h0⟩ := h.e
  have hg0 := h.g0
  have hp0 := h0.p.size
  have hs := hg.size
  have hb : Below w0.heap.size w w' := (Below.refl _ w).grown hg hp0 (fun k hk => (World.ownsRow.lt h.row k hk).1)
  have hne : ∀ k, k < w.heap.size → some k ≠ v.ownBlock → some k ≠ v'.ownBlock := by
    intro k hk hne
    rcases hat with e | e
    · rw [e]; exact hne
    · rw [e]; intro e0; injection e0 with e0; omega
  have hq : ∀ p ∈ LL, LectIn w' (fun k => g < k ∧ k < w'.heap.size ∧ some k ≠ v'.ownBlock) p.1 p.2 := fun p hp => ((h.r p hp).kept (fun k hk => hg.block k hk.2.1 hk.2.2)).mono (fun k hk => ⟨hk.1, by omega, hne k hk.2.1 hk.2.2⟩)
  refine ⟨⟨j, h0.below hb hg0⟩, ?_, fun x hx => ?_, hg0⟩
  · rw [lectVals_app, List.length_append, List.length_singleton]
    simpa [lectVals] using hown
  · rcases List.mem_append.1 hx with hx | hx
    · exact hq x hx
    · rw [List.mem_singleton] at hx; subst hx; exact hq _ hp
theorem time_single (w : World) (K Y T U : Int) (hT : T ≤ 9223372036854775807) (P : Nat → Prop) (hP : P w.heap.size) : TimesIn (w.alloc (.cells #[.int .i64 K, .int .i64 Y, .int .i64 T, .int .i64 U] 26)) P (some ⟨w.heap.size, 0, none⟩) [(K, Y, T, U)] := by
  have h2 := Box4.new w K Y T U 26
  refine ⟨fun t ht => ?_, .inr ⟨w.heap.size, 0, rfl, hP, fun j t hj i v hv => ?_⟩⟩
  · rw [List.mem_singleton] at ht; subst ht; exact hT
  · match j, hj with
    | 0, hj =>
      obtain rfl : (K, Y, T, U) = t := by simpa using hj
      match i, hv with
      | 0, hv => exact h2.c0.trans hv
      | 1, hv => exact h2.c1.trans hv
      | 2, hv => exact h2.c2.trans hv
      | 3, hv => exact h2.c3.trans hv
      | i + 4, hv => simp [timeVs] at hv
    | j + 1, hj => simp at hj
end Go.Proofs.YtnpfmoalgphkcaaGreatDoor
