/-
  A predicate on times, asked of a list of them (slices.ContainsFunc): which do not fit, which overlap another one. Conditions: the times lie in memory. A room .. Conditions: as stated.
-/
import Derived.Test.YtnpfmoalgphkcaaGreatDoorMM01
import Derived.Test.YtnpfmoalgphkcaaGreatDoorMM02
import Derived.Test.YtnpfmoalgphkcaaGreatDoorMM03
import Derived.Test.YtnpfmoalgphkcaaGreatDoorMM04
import Derived.Test.YtnpfmoalgphkcaaGreatDoorMM05
import Derived.Test.YtnpfmoalgphkcaaGreatDoorMM06
import Derived.Test.YtnpfmoalgphkcaaGreatDoorMM07
import Derived.Test.YtnpfmoalgphkcaaGreatDoorMM08
import Derived.Test.YtnpfmoalgphkcaaGreatDoorMM09
import Derived.Test.YtnpfmoalgphkcaaGreatDoorMM10
import Derived.Test.YtnpfmoalgphkcaaGreatDoorMM11
import Derived.Test.YtnpfmoalgphkcaaGreatDoorMM12
import Derived.Test.YtnpfmoalgphkcaaGreatDoorMM13
import Derived.Test.YtnpfmoalgphkcaaGreatDoorMM14
import Derived.Test.YtnpfmoalgphkcaaGreatDoorProg
import Derived.WalkKit
import Derived.WalkSpells
import Derived.WalkLawsBesides
import Derived.Lib.Hide
import Derived.Deep.QuietTactic
import Derived.BigQuiet
import Derived.Laws.Rows
import Derived.OwnWalk
import Derived.Lib.BufferWrite
import Derived.Lib.UnsafeStr
import Derived.Laws.IdiomStrings
import Derived.Laws.BytesArg
import Derived.Laws.BytesString
import Derived.Laws.OwnMore
import Derived.Lib.IndexLaws
import Derived.Lib.ItoaNum
import Derived.Lib.Atoi
import Derived.Laws.BitsAllLaws
import Derived.Laws.BitsLemmas
import Derived.Deep.MidRow
import Derived.Shelf.Strings.Builder1
import Derived.Shelf.Strings.Builder2
import Derived.Shelf.Strings.OnBuilder
import Derived.Shelf.Strings.BuilderF
import Derived.Shelf.Strings.BuilderK
import Derived.Shelf.Strings.Builder2Cap
import Derived.Shelf.Strconv.Atoi
import Derived.Shelf.Strconv.Itoa0
import Derived.Shelf.Strconv.Itoa1
import Derived.Shelf.LaysM
import Derived.Shelf.Strconv.Itoa2
import Derived.Shelf.Strconv.Itoa3
import Derived.Shelf.Strconv.AtoiErrFast
import Derived.Shelf.Strconv.ParseIntEmpty
import Derived.Shelf.Strconv.AtoiFail
import Derived.Shelf.Strconv.Clone
import Derived.Shelf.Strconv.SyntaxError
import Derived.Shelf.LaysC
import Derived.Shelf.Strconv.ToError
import Derived.Shelf.Strconv.AtoiErr
import Derived.Shelf.Strings.Search1
import Derived.Shelf.Strings.Search2
import Derived.Shelf.Strings.Search3
import Derived.Shelf.Strings.Cut
import Derived.Shelf.Strings.Shaped
import Derived.Shelf.Strings.Prefix
import Derived.Shelf.Unicode.DecodeSlow
import Derived.Shelf.Strings.BuilderCap
import Derived.Lib.AtoiErrMem
import Derived.Handy
import Derived.RangeFuncNested
import Derived.RangeFuncBound
import Derived.RangeFuncCalls
import Derived.RangeFuncLeaves
import Derived.Shelf.Abstract
import Derived.Shelf.RegionOpen
import Derived.OwnWalkIn
import Derived.Lib.Bytealg
import Derived.Lib.SlTrimSet
import Derived.Shelf.Strings.SlTrimAscii
import Derived.Laws.ResultCell
import Derived.RegionTactic
import Derived.Lib.Repeat
import Derived.Deep.RegionHeld3
import Derived.Lib.SlicesS
import Derived.TacticsInMore
import Derived.LoopNIn
import Derived.LoopIn
import Derived.Deep.DeepCutAuto
import Derived.Lib.Join
import Derived.Laws.Concat
import Derived.Deep.RegionLaw
import Derived.Shelf.SlGeneric
import Derived.Shelf.SlicesQ.IndexFunc
import Derived.Sort.Walk0
import Derived.Maps.OwnSet
import Derived.Maps.Range
import Derived.Sort.EncStr
set_option linter.unusedVariables false
namespace Go.Proofs.YtnpfmoalgphkcaaGreatDoor
open Go Go.Proofs Go.RowKit Go.Lib
abbrev TimeF := {t : TimeD // t.2.2.1 ≤ 9223372036854775807}
instance instTimeF : Inhabited TimeF := ⟨⟨(0, 0, 0, 0), by decide⟩⟩
def encT (x : TimeF) : List Value := timeVs x.1
def listF (l : List TimeD) (h : ∀ t ∈ l, t.2.2.1 ≤ 9223372036854775807) : List TimeF := l.pmap (fun t ht => ⟨t, ht⟩) h
theorem listF_len (l : List TimeD) (h) : (listF l h).length = l.length := List.length_pmap
theorem listF_any (l : List TimeD) (h) (p : TimeD → Bool) : (listF l h).any (fun x => p x.1) = l.any p := by
  induction l with
  | nil => rfl
  | cons a r ih =>
    have := ih (fun t ht => h t (by simp [ht]))
    simp only [listF, List.pmap, List.any_cons] at this ⊢
    rw [this]
set_option maxHeartbeats 1000000 in
theorem anyT_nil (A : Option Addr) (c : Nat) (f : Value) (w : World) : Calls Tryz.prog 60 #[.slice A 0 c, f] w fun e w' => e = .returned (.bool false) ∧ Below w.heap.size w w' := by
  have cI : ∀ w, Calls Tryz.prog 82 #[.slice A 0 c, f] w fun e w' => e = .returned (.int .i64 (-1)) ∧ w = w' := fun w => by
    go_enter Tryz.func82, Tryz.ntmps82
    go_wp2
    go_loop [5, 8] (fun _ iv => iv = .int .i64 0) (fun _ _ => 0)
    case atStart => rfl
    case round =>
      subst hrel
      go_wp2
      go_ret
      exact ⟨rfl, rfl⟩
  go_enter Tryz.func60, Tryz.ntmps60
  go_wp2_with fail
  refine (cI _).mono ?_
  rintro e w' ⟨rfl, rfl⟩
  go_wp2
  go_ret
  exact ⟨rfl, Below.refl _ _⟩
theorem egUnfit : ∀ args w, (callFunc 88 args).run Tryz.prog w = .ok (.enter 88 args) w := enters_of Tryz.func88 (by kernel_rfl) rfl
theorem egOpen : ∀ args w, (callFunc 58 args).run Tryz.prog w = .ok (.enter 58 args) w := enters_of Tryz.func58 (by kernel_rfl) rfl
set_option maxHeartbeats 2000000 in
theorem pred_unfit (d s b m n : Int) (G N : Nat) (w : World) (hG : Box4 w G d s b m) (hN : w.cell? ⟨N, 0, none⟩ = some (.int .i64 n)) (hNl : N < w.heap.size) :
    PredBelow Tryz.prog 88 #[.pointer (some ⟨G, 0, none⟩), .pointer (some ⟨N, 0, none⟩)] (fun x : TimeF => .agg (encT x).toArray) (fun x => unfitB d s b m n x.1) w := fun W x hb => by
  obtain ⟨⟨k, y, t, l⟩, ht⟩ := x
  have cF := fun w => fits_any d s b m n k y t l ht w
  unfold Says at cF
  have hGl := hG.lt
  have hG' := hG.next hb hGl
  have hN' : W.cell? ⟨N, 0, none⟩ = some (.int .i64 n) := (hb.cell (p := ⟨N, 0, none⟩) hNl).trans hN
  obtain ⟨x0, x1, x2, x3, _⟩ := hG'
  have hsW := hb.size
  have hGW : G ≠ W.heap.size := by omega
  have hNW : N ≠ W.heap.size := by omega
  show Calls Tryz.prog 88 #[.agg #[.int .i64 k, .int .i64 y, .int .i64 t, .int .i64 l], .pointer (some ⟨G, 0, none⟩), .pointer (some ⟨N, 0, none⟩)] W _
  show Calls _ _ _ _ fun e w' => e = .returned (.bool (decide (fitsM d s b m n k y t l ≠ 0))) ∧ _
  obtain ⟨F, hF⟩ : ∃ F, fitsM d s b m n k y t l = F := ⟨_, rfl⟩
  rw [hF] at cF ⊢
  have hn1 : (W.alloc (.cells #[.int .i64 k, .int .i64 y, .int .i64 t, .int .i64 l] 26)).cell? ⟨N, 0, none⟩ = some (.int .i64 n) := Lib.cell?_alloc_some _ hN'
  have HB := hid (hb.alloc hb.size (.cells #[.int .i64 k, .int .i64 y, .int .i64 t, .int .i64 l] 26))
  clear hb hF hG hN
  by_cases h0 : F = 0
  · subst h0
    go_enter Tryz.func88, Tryz.ntmps88
    go_wp2_with fail
    refine (cF _).mono ?_
    rintro e w' ⟨rfl, hb2⟩
    have HB2 := hid (HB.out.trans (hb2.mono HB.out.size))
    clear hb2
    go_wp2
    go_ret
    exact ⟨rfl, HB2.out⟩
  · have h1 : (F != 0) = true := by simpa using h0
    have h2 : (F == 0) = false := by simpa using h0
    rw [decide_eq_true h0]
    go_enter Tryz.func88, Tryz.ntmps88
    go_wp2_with fail
    refine (cF _).mono ?_
    rintro e w' ⟨rfl, hb2⟩
    have HB2 := hid (HB.out.trans (hb2.mono HB.out.size))
    clear hb2
    go_wp2
    go_ret
    exact ⟨rfl, HB2.out⟩
theorem anyT_any (p : TimeD → Bool) (g : Nat) (lb : Array Value) (eg : ∀ args w, (callFunc g args).run Tryz.prog w = .ok (.enter g args) w) (A : Option Addr) (l : List TimeD) (c B : Nat) (w : World) (hBw : B ≤ w.heap.size)
    (hp : PredBelow Tryz.prog g lb (fun x : TimeF => .agg (encT x).toArray) (fun x => p x.1) w) (h : TimesIn w (fun b => b < B) A l) (hlc : l.length ≤ c) (hc : c ≤ 9223372036854775807) :
    Calls Tryz.prog 60 #[.slice A l.length c, .func (.func g) #[] lb] w fun e w' => e = .returned (.bool (l.any p)) ∧ Below w.heap.size w w' := by
  rcases h with ⟨hle, rfl | ⟨b, off, rfl, hb, hcs⟩⟩
  · exact anyT_nil A c _ w
  · have hcon := AnyQ.slices_ContainsFunc Tryz.laysContainsF 4 Tryz.isAgg26 Tryz.sizeOf26 encT (fun _ => rfl) (fun x => p x.1) g lb eg b off l.length c (listF l hle) w hp (by rw [listF_len]; exact Nat.le_refl _) (by omega) (by show b < w.heap.size; omega) (fun j hj i v hv => by
      have hj' : j < l.length := by rwa [listF_len] at hj
      refine hcs j l[j] (List.getElem?_eq_getElem hj') i v ?_
      have e : (listF l hle)[j]! = ⟨l[j], hle _ (List.getElem_mem hj')⟩ := by
        rw [getElem!_pos (listF l hle) j hj]
        simp [listF]
      rw [e] at hv
      exact hv)
    rw [List.take_of_length_le (by rw [listF_len]; exact Nat.le_refl _), listF_any] at hcon
    exact hcon
set_option maxHeartbeats 2000000 in
theorem pred_open (k' y' t' l' : Int) (ht' : t' ≤ 9223372036854775807) (G : Nat) (w : World) (hG : Box4 w G k' y' t' l') :
    PredBelow Tryz.prog 58 #[.pointer (some ⟨G, 0, none⟩)] (fun x : TimeF => .agg (encT x).toArray) (fun x => overB x.1.1 x.1.2.1 x.1.2.2.1 x.1.2.2.2 k' y' t' l') w := fun W x hb => by
  obtain ⟨⟨k, y, t, l⟩, ht⟩ := x
  have cF := fun w => overlap_any k y t l k' y' t' l' ht ht' w
  unfold Says at cF
  have hGl := hG.lt
  have hG' := hG.next hb hGl
  obtain ⟨x0, x1, x2, x3, _⟩ := hG'
  have hsW := hb.size
  have hGW : G ≠ W.heap.size := by omega
  have hGL : G < W.heap.size := by omega
  show Calls Tryz.prog 58 #[.agg #[.int .i64 k, .int .i64 y, .int .i64 t, .int .i64 l], .pointer (some ⟨G, 0, none⟩)] W _
  show Calls _ _ _ _ fun e w' => e = .returned (.bool (overB k y t l k' y' t' l')) ∧ _
  obtain ⟨F, hF⟩ : ∃ F, overB k y t l k' y' t' l' = F := ⟨_, rfl⟩
  rw [hF] at cF ⊢
  have HB := hid (hb.alloc hb.size (.cells #[.int .i64 k, .int .i64 y, .int .i64 t, .int .i64 l] 26))
  clear hb hF hG
  go_enter Tryz.func58, Tryz.ntmps58
  go_wp2_with fail
  refine (cF _).mono ?_
  rintro e w' ⟨rfl, hb2⟩
  have HB2 := hid (HB.out.trans (hb2.mono HB.out.size))
  clear hb2
  go_wp2
  go_ret
  exact ⟨rfl, HB2.out⟩
set_option maxHeartbeats 8000000 in
set_option maxRecDepth 100000 in
theorem tfit_any (d s b m n : Int) (A : Option Addr) (l : List TimeD) (c : Nat) (w : World) (h : TimesIn w (fun b => b < w.heap.size) A l) (hlc : l.length ≤ c) (hc : c ≤ 9223372036854775807) :
    Calls Tryz.prog 64 #[.slice A l.length c, .agg #[.int .i64 d, .int .i64 s, .int .i64 b, .int .i64 m], .int .i64 n] w (Says (.bool (!(l.any (unfitB d s b m n)))) w) := by
  unfold Says
  have hG := Box4.new w d s b m 24
  have hb1 := (Below.refl w.heap.size w).alloc (Nat.le_refl _) (.cells #[.int .i64 d, .int .i64 s, .int .i64 b, .int .i64 m] 24)
  have hs1 : (w.alloc (.cells #[.int .i64 d, .int .i64 s, .int .i64 b, .int .i64 m] 24)).heap.size = w.heap.size + 1 := by simp
  obtain ⟨w1, hw1⟩ : ∃ w1, w.alloc (.cells #[.int .i64 d, .int .i64 s, .int .i64 b, .int .i64 m] 24) = w1 := ⟨_, rfl⟩
  rw [hw1] at hG hb1 hs1
  have hN := Box1.new w1 3 (.int .i64 n)
  have hb2 := (Below.refl w1.heap.size w1).alloc (Nat.le_refl _) (.cells #[.int .i64 n] 3)
  obtain ⟨w2, hw2⟩ : ∃ w2, w1.alloc (.cells #[.int .i64 n] 3) = w2 := ⟨_, rfl⟩
  rw [hw2] at hN hb2
  have hb := hb1.trans (hb2.mono (by omega))
  have cT := anyT_any (unfitB d s b m n) 88 #[.pointer (some ⟨w.heap.size, 0, none⟩), .pointer (some ⟨w1.heap.size, 0, none⟩)] egUnfit A l c w.heap.size w2 hb.size (pred_unfit d s b m n _ _ w2 (hG.next hb2 hG.lt) hN.cell hN.lt) (h.below hb) hlc hc
  obtain ⟨R, hR⟩ : ∃ R, l.any (unfitB d s b m n) = R := ⟨_, rfl⟩
  rw [hR] at cT ⊢
  rw [hs1] at cT
  have CT := hid cT
  have HB := hid hb
  have HW1 := hid hw1
  have HW2 := hid hw2
  clear cT hb hG hb1 hb2 hN h hlc hc hR hw1 hw2 hs1
  go_enter Tryz.func64, Tryz.ntmps64
  go_wp2_with fail
  (try rw [HW1.out])
  (try rw [HW2.out])
  refine CT.out.mono ?_
  rintro e w' ⟨rfl, hb3⟩
  have HB3 := hid (HB.out.trans (hb3.mono HB.out.size))
  clear hb3
  cases R with
  | true =>
    go_wp2
    go_ret
    exact ⟨rfl, HB3.out⟩
  | false =>
    go_wp2
    go_ret
    exact ⟨rfl, HB3.out⟩
set_option maxHeartbeats 8000000 in
set_option maxRecDepth 100000 in
theorem tover_any (A : Option Addr) (l : List TimeD) (c : Nat) (t : TimeD) (ht : t.2.2.1 ≤ 9223372036854775807) (w : World) (h : TimesIn w (fun b => b < w.heap.size) A l) (hlc : l.length ≤ c) (hc : c ≤ 9223372036854775807) :
    Calls Tryz.prog 33 #[.slice A l.length c, timeV t] w (Says (.bool (!(clearM l t))) w) := by
  obtain ⟨k', y', t', l'⟩ := t
  unfold Says timeV clearM
  dsimp only at ht ⊢
  rw [Bool.not_not]
  have hG := Box4.new w k' y' t' l' 26
  have hb1 := (Below.refl w.heap.size w).alloc (Nat.le_refl _) (.cells #[.int .i64 k', .int .i64 y', .int .i64 t', .int .i64 l'] 26)
  obtain ⟨w1, hw1⟩ : ∃ w1, w.alloc (.cells #[.int .i64 k', .int .i64 y', .int .i64 t', .int .i64 l'] 26) = w1 := ⟨_, rfl⟩
  rw [hw1] at hG hb1
  have cT := anyT_any (fun x => overB x.1 x.2.1 x.2.2.1 x.2.2.2 k' y' t' l') 58 #[.pointer (some ⟨w.heap.size, 0, none⟩)] egOpen A l c w.heap.size w1 hb1.size (pred_open k' y' t' l' ht _ w1 hG) (h.below hb1) hlc hc
  obtain ⟨R, hR⟩ : ∃ R, (l.any fun x => overB x.1 x.2.1 x.2.2.1 x.2.2.2 k' y' t' l') = R := ⟨_, rfl⟩
  rw [hR] at cT ⊢
  have CT := hid cT
  have HB := hid hb1
  have HW1 := hid hw1
  clear cT hG hb1 h hlc hc hR hw1 ht
  go_enter Tryz.func33, Tryz.ntmps33
  go_wp2_with fail
  (try rw [HW1.out])
  refine CT.out.mono ?_
  rintro e w' ⟨rfl, hb3⟩
  have HB3 := hid (HB.out.trans (hb3.mono HB.out.size))
  clear hb3
  go_wp2
  go_ret
  exact ⟨rfl, HB3.out⟩
set_option maxHeartbeats 8000000 in
set_option maxRecDepth 100000 in
theorem free_any (x : LectD) (q : LectA) (t : TimeD) (ht : t.2.2.1 ≤ 9223372036854775807) (w : World) (h : LectIn w (fun b => b < w.heap.size) x q) :
    Calls Tryz.prog 10 #[lectV x q, timeV t] w (Says (.bool (clearM x.2 t)) w) := by
  have hX := Box2.new w (.string (ba x.1)) (.slice q.1 x.2.length q.2)
  have hb1 := (Below.refl w.heap.size w).alloc (Nat.le_refl _) (.cells #[.string (ba x.1), .slice q.1 x.2.length q.2] 34)
  have hs1 : (w.alloc (.cells #[.string (ba x.1), .slice q.1 x.2.length q.2] 34)).heap.size = w.heap.size + 1 := by simp
  obtain ⟨w1, hw1⟩ : ∃ w1, w.alloc (.cells #[.string (ba x.1), .slice q.1 x.2.length q.2] 34) = w1 := ⟨_, rfl⟩
  rw [hw1] at hX hb1 hs1
  have hb2 := (Below.refl w1.heap.size w1).alloc (Nat.le_refl _) (.cells #[.int .i64 t.1, .int .i64 t.2.1, .int .i64 t.2.2.1, .int .i64 t.2.2.2] 26)
  obtain ⟨w2, hw2⟩ : ∃ w2, w1.alloc (.cells #[.int .i64 t.1, .int .i64 t.2.1, .int .i64 t.2.2.1, .int .i64 t.2.2.2] 26) = w2 := ⟨_, rfl⟩
  rw [hw2] at hb2
  have hb := hb1.trans (hb2.mono (by omega))
  have cT := tover_any q.1 x.2 q.2 t ht w2 ((h.t.below hb).mono (fun k hk => Nat.lt_of_lt_of_le hk hb.size)) h.t1 h.t2
  unfold Says lectV timeV at *
  obtain ⟨R, hR⟩ : ∃ R, clearM x.2 t = R := ⟨_, rfl⟩
  rw [hR] at cT ⊢
  obtain ⟨t0, t1, t2, t3⟩ := t
  obtain ⟨x0, x1⟩ := x
  dsimp only at *
  obtain ⟨F, hF⟩ : ∃ F, x1.length = F := ⟨_, rfl⟩
  obtain ⟨X, hXe⟩ : ∃ X, ba x0 = X := ⟨_, rfl⟩
  rw [hF] at cT ⊢
  rw [hXe] at ⊢
  rw [hF, hXe] at hw1
  have CT := hid cT
  have HB := hid hb
  have HW1 := hid hw1
  have HW2 := hid hw2
  clear cT hX hb1 hb2 hs1 h hR hw1 hw2 ht hb hF hXe
  go_enter Tryz.func10, Tryz.ntmps10
  go_wp2_with fail
  (try rw [HW1.out])
  (try rw [HW2.out])
  refine CT.out.mono ?_
  rintro e w' ⟨rfl, hb3⟩
  have HB3 := hid (HB.out.trans (hb3.mono HB.out.size))
  clear hb3
  go_wp2
  go_ret
  exact ⟨by cases R <;> rfl, HB3.out⟩
set_option maxHeartbeats 4000000 in
set_option maxRecDepth 100000 in
theorem rframe_any (d s b m n : Int) (w : World) : Calls Tryz.prog 36 #[.agg #[.int .i64 d, .int .i64 s, .int .i64 b, .int .i64 m], .int .i64 n] w (Says (.bool (frameB d s b m n)) w) := by
  have cV := fun w => gvalid_any d s b m w
  unfold Says at cV ⊢
  have hF : frameB d s b m n = (gridB d s b m && decide (1 ≤ n) && decide (n ≤ 20)) := by
    unfold frameB
    rw [Bool.eq_iff_iff]
    simp
    constructor
    · rintro ⟨h1, h2, h3⟩; exact ⟨⟨h1, h2⟩, h3⟩
    · rintro ⟨⟨h1, h2⟩, h3⟩; exact ⟨h1, h2, h3⟩
  rw [hF]
  have hk := K1.first w d s b m 24
  have HK := hid hk
  clear hk hF
  cases hg : gridB d s b m with
  | false =>
    rw [hg, if_neg (by simp)] at cV
    clear hg
    go_enter Tryz.func36, Tryz.ntmps36
    go_wp2_with fail
    refine (cV _).mono ?_
    rintro e w1 ⟨rfl, hb⟩
    have hk := HK.out.next hb
    clear hb HK
    go_wp2
    go_ret
    exact ⟨rfl, hk.b⟩
  | true =>
    rw [hg, if_pos rfl] at cV
    clear hg
    by_cases h1 : 1 ≤ n
    · have h1d : decide (1 ≤ n) = true := decide_eq_true h1
      by_cases h2 : n ≤ 20
      · have h2d : decide (n ≤ 20) = true := decide_eq_true h2
        rw [h1d, h2d]
        go_enter Tryz.func36, Tryz.ntmps36
        go_wp2_with fail
        refine (cV _).mono ?_
        rintro e w1 ⟨rfl, hb⟩
        have hk := HK.out.next hb
        clear hb HK
        go_wp2
        go_ret
        exact ⟨rfl, hk.b⟩
      · have h2d : decide (n ≤ 20) = false := decide_eq_false h2
        rw [h1d, h2d]
        go_enter Tryz.func36, Tryz.ntmps36
        go_wp2_with fail
        refine (cV _).mono ?_
        rintro e w1 ⟨rfl, hb⟩
        have hk := HK.out.next hb
        clear hb HK
        go_wp2
        go_ret
        exact ⟨rfl, hk.b⟩
    · have h1d : decide (1 ≤ n) = false := decide_eq_false h1
      rw [h1d]
      go_enter Tryz.func36, Tryz.ntmps36
      go_wp2_with fail
      refine (cV _).mono ?_
      rintro e w1 ⟨rfl, hb⟩
      have hk := HK.out.next hb
      clear hb HK
      go_wp2
      go_ret
      exact ⟨by simp, hk.b⟩
theorem validC_len {s : Str} (h : S3.validC s = true) : s.length ≤ 16 := by
  unfold S3.validC at h
  cases s with
  | nil => simp
  | cons a r => simp at h; simp; omega
structure KL (w0 : World) (d s b m : Int) (v0 v1 : Value) (w : World) : Prop where
  x : Box2 w w0.heap.size v0 v1
  g : Box4 w (w0.heap.size + 1) d s b m
  b : Below w0.heap.size w0 w
theorem KL.first (w : World) (d s b m : Int) (v0 v1 : Value) (T : TypeId) :
    KL w d s b m v0 v1 ((w.alloc (.cells #[v0, v1] 34)).alloc (.cells #[.int .i64 d, .int .i64 s, .int .i64 b, .int .i64 m] T)) := by
  have h1 := Box2.new w v0 v1
  have hb1 := (Below.refl w.heap.size w).alloc (Nat.le_refl _) (.cells #[v0, v1] 34)
  have hs : (w.alloc (.cells #[v0, v1] 34)).heap.size = w.heap.size + 1 := by simp
  generalize w.alloc (.cells #[v0, v1] 34) = w1 at h1 hb1 hs ⊢
  have h2 := Box4.new w1 d s b m T
  have hb2 := (Below.refl w1.heap.size w1).alloc (Nat.le_refl _) (.cells #[.int .i64 d, .int .i64 s, .int .i64 b, .int .i64 m] T)
  rw [hs] at h2
  exact ⟨h1.next hb2, h2, hb1.trans (hb2.mono (by omega))⟩
theorem KL.next {w0 w w' : World} {d s b m : Int} {v0 v1 : Value} (h : KL w0 d s b m v0 v1 w) (k : Below w.heap.size w w') : KL w0 d s b m v0 v1 w' :=
  ⟨h.x.next k, h.g.next k h.g.lt, h.b.trans (k.mono h.b.size)⟩
set_option maxHeartbeats 8000000 in
set_option maxRecDepth 100000 in
theorem lcheck_any (d s b m n : Int) (x : LectD) (q : LectA) (w : World) (h : LectIn w (fun b => b < w.heap.size) x q) :
    Calls Tryz.prog 38 #[lectV x q, .agg #[.int .i64 d, .int .i64 s, .int .i64 b, .int .i64 m], .int .i64 n] w (Says (.int .i64 (lectM d s b m n x)) w) := by
  obtain ⟨code, ts⟩ := x
  obtain ⟨A2, c2⟩ := q
  obtain ⟨ht, ht1, ht2⟩ := h
  dsimp only at ht ht1 ht2
  unfold lectV Says
  dsimp only
  have hk0 := KL.first w d s b m (.string (ba code)) (.slice A2 ts.length c2) 24
  have cV1 := fun w => S3.valid_any (ba code) w
  have cT := hid (fun (w' : World) (hb : Below w.heap.size w w') => tfit_any d s b m n A2 ts c2 w' ((ht.below hb).mono (fun k hk => Nat.lt_of_lt_of_le hk hb.size)) ht1 ht2)
  obtain ⟨R, hR⟩ : ∃ R, lectM d s b m n (code, ts) = R := ⟨_, rfl⟩
  rw [hR]
  rw [show (ba code).data.toList = code from rfl] at cV1
  unfold lectM at hR
  dsimp only at hR
  obtain ⟨V1, hV1⟩ : ∃ V, S3.validC code = V := ⟨_, rfl⟩
  obtain ⟨TB, hTB⟩ : ∃ V, ts.any (unfitB d s b m n) = V := ⟨_, rfl⟩
  have cT' := cT.out
  unfold Says at cT'
  rw [hV1] at cV1 hR
  rw [hTB] at cT' hR
  have CT := hid cT'
  obtain ⟨X1, hX1⟩ : ∃ X, ba code = X := ⟨_, rfl⟩
  rw [hX1] at hk0 cV1 ⊢
  obtain ⟨T1, hT1⟩ : ∃ F, ts.length = F := ⟨_, rfl⟩
  rw [hT1] at hk0 CT hR ⊢
  clear ht cT cT' hV1 hTB hX1 ht1 hT1
  have HK0 := hid hk0
  clear hk0
  cases V1 with
  | false =>
    obtain rfl : R = 10 := by rw [← hR]; simp
    clear hR
    go_enter Tryz.func38, Tryz.ntmps38
    go_wp2_with fail
    have hk := HK0.out
    clear HK0
    generalize World.alloc _ _ = wx at hk ⊢
    obtain ⟨x0, x1⟩ := hk.x.cells
    have HK := hid hk
    clear hk
    refine (cV1 _).mono ?_
    rintro e w' ⟨rfl, rfl⟩
    go_wp2
    go_ret
    exact ⟨rfl, HK.out.b⟩
  | true =>
  rw [if_neg (by simp)] at hR
  by_cases z2 : 24 < T1
  · have z2' : (24 : Int) < (T1 : Int) := by omega
    have z2d : decide ((24 : Int) < (T1 : Int)) = true := decide_eq_true z2'
    obtain rfl : R = 2 := by rw [← hR, if_pos z2]
    clear hR
    go_enter Tryz.func38, Tryz.ntmps38
    go_wp2_with fail
    have hk := HK0.out
    clear HK0
    generalize World.alloc _ _ = wx at hk ⊢
    obtain ⟨x0, x1⟩ := hk.x.cells
    have HK := hid hk
    clear hk
    refine (cV1 _).mono ?_
    rintro e w' ⟨rfl, rfl⟩
    go_wp2
    go_ret
    exact ⟨rfl, HK.out.b⟩
  have z2' : ¬ (24 : Int) < (T1 : Int) := by omega
  have z2d : decide ((24 : Int) < (T1 : Int)) = false := decide_eq_false z2'
  rw [if_neg z2] at hR
  clear z2
  cases TB with
  | true =>
    obtain rfl : R = 14 := by rw [← hR]; simp
    clear hR
    go_enter Tryz.func38, Tryz.ntmps38
    go_wp2_with fail
    have hk := HK0.out
    clear HK0
    generalize World.alloc _ _ = wx at hk ⊢
    obtain ⟨x0, x1⟩ := hk.x.cells
    obtain ⟨g0, g1, g2, g3, _⟩ := id hk.g
    have HK := hid hk
    clear hk
    refine (cV1 _).mono ?_
    rintro e w' ⟨rfl, rfl⟩
    go_wp2_with fail
    refine (CT.out _ HK.out.b).mono ?_
    rintro e w2 ⟨rfl, hb⟩
    have HB := hid (HK.out.next hb).b
    clear hb
    go_wp2
    go_ret
    exact ⟨rfl, HB.out⟩
  | false =>
    obtain rfl : R = 0 := by rw [← hR]; simp
    clear hR
    go_enter Tryz.func38, Tryz.ntmps38
    go_wp2_with fail
    have hk := HK0.out
    clear HK0
    generalize World.alloc _ _ = wx at hk ⊢
    obtain ⟨x0, x1⟩ := hk.x.cells
    obtain ⟨g0, g1, g2, g3, _⟩ := id hk.g
    have HK := hid hk
    clear hk
    refine (cV1 _).mono ?_
    rintro e w' ⟨rfl, rfl⟩
    go_wp2_with fail
    refine (CT.out _ HK.out.b).mono ?_
    rintro e w2 ⟨rfl, hb⟩
    have HB := hid (HK.out.next hb).b
    clear hb
    go_wp2
    go_ret
    exact ⟨rfl, HB.out⟩
set_option maxHeartbeats 2000000 in
set_option maxRecDepth 100000 in
theorem lcheck1_any (d s b m n : Int) (x : LectD) (q : LectA) (G N : Nat) (w : World) (hG : Box4 w G d s b m) (hN : w.cell? ⟨N, 0, none⟩ = some (.int .i64 n)) (hNl : N < w.heap.size) (h : LectIn w (fun b => b < w.heap.size) x q) :
    Calls Tryz.prog 37 #[lectV x q, .pointer (some ⟨G, 0, none⟩), .pointer (some ⟨N, 0, none⟩)] w (Says (.int .i64 (lectM d s b m n x)) w) := by
  have hX := Box2.new w (.string (ba x.1)) (.slice q.1 x.2.length q.2)
  have hb1 := (Below.refl w.heap.size w).alloc (Nat.le_refl _) (.cells #[.string (ba x.1), .slice q.1 x.2.length q.2] 34)
  have hGl := hG.lt
  obtain ⟨w1, hw1⟩ : ∃ w1, w.alloc (.cells #[.string (ba x.1), .slice q.1 x.2.length q.2] 34) = w1 := ⟨_, rfl⟩
  rw [hw1] at hX hb1
  have cC := lcheck_any d s b m n x q w1 ((h.below hb1).mono (fun k hk => Nat.lt_of_lt_of_le hk hb1.size))
  obtain ⟨x0, x1, x2, x3, _⟩ := hG
  unfold Says lectV at *
  obtain ⟨R, hR⟩ : ∃ R, lectM d s b m n x = R := ⟨_, rfl⟩
  rw [hR] at cC ⊢
  obtain ⟨F, hF⟩ : ∃ F, x.2.length = F := ⟨_, rfl⟩
  obtain ⟨X, hXe⟩ : ∃ X, ba x.1 = X := ⟨_, rfl⟩
  rw [hF, hXe] at cC hw1 ⊢
  have CC := hid cC
  have HB := hid hb1
  have HW1 := hid hw1
  clear cC hX hb1 h hR hw1 hF hXe
  go_enter Tryz.func37, Tryz.ntmps37
  go_wp2_with fail
  (try rw [HW1.out])
  refine CC.out.mono ?_
  rintro e w' ⟨rfl, hb3⟩
  have HB3 := hid (HB.out.trans (hb3.mono HB.out.size))
  clear hb3
  go_wp2
  go_ret
  exact ⟨rfl, HB3.out⟩
theorem grown_under {w w1 w2 : World} {M : Nat} (h : w.grownBy w1 (some M)) (hb : Below w1.heap.size w1 w2) : w.grownBy w2 (some M) :=
  h.andThen (below_grown hb (Nat.le_refl _)) (fun j hj => by cases hj)
theorem addK_ok {l : List Str} {c : Str} (hm : c ∉ l) (hl : l.length < 32) : addK 32 l c = (l ++ [c], 0) := by
  unfold addK; rw [if_neg hm, if_neg (by omega)]
theorem addK_dup {l : List Str} {c : Str} (hm : c ∈ l) : addK 32 l c = (l, 11) := if_pos hm
structure CK (d s b m n : Int) (G N KB AB MB M : Nat) (w : World) : Prop where
  g : Box4 w G d s b m
  n : Box1 w N 3 (.int .i64 n)
  d : DistIn w KB AB MB M
  gm : G ≠ M
  nm : N ≠ M
  km : KB ≠ M
  am : AB ≠ M
  mm : MB ≠ M
theorem CK.grown {d s b m n : Int} {G N KB AB MB M : Nat} {w w' : World} (h : CK d s b m n G N KB AB MB M w) (hg : w.grownBy w' (some M)) : CK d s b m n G N KB AB MB M w' := by
  have kb : ∀ k, k < w.heap.size → k ≠ M → w'.heap[k]? = w.heap[k]? := fun k hk hn => hg.block k hk (fun e => hn (Option.some.inj e))
  have hgb := kb _ h.g.lt h.gm
  have hx := h.g
  have kc : ∀ o : Nat, w'.cell? ⟨G, o, none⟩ = w.cell? ⟨G, o, none⟩ := fun o => World.cell?_of_block (w := w) hgb
  exact ⟨⟨(kc 0).trans hx.c0, (kc 1).trans hx.c1, (kc 2).trans hx.c2, (kc 3).trans hx.c3, Nat.lt_of_lt_of_le hx.lt hg.size⟩, h.n.kept (kb _ h.n.lt h.nm),
    h.d.kept (fun k hk => by
      rcases hk with rfl | rfl | rfl
      · exact kb _ h.d.k.lt h.km
      · exact kb _ h.d.a.lt h.am
      · exact kb _ h.d.m.lt h.mm), h.gm, h.nm, h.km, h.am, h.mm⟩
set_option maxHeartbeats 16000000 in
set_option maxRecDepth 100000 in
theorem chk_any (d s b m n : Int) (A : Option Addr) (l : List LectD) (c G N KB AB MB M : Nat) (w : World) (h : LectsIn w (fun k => k < M) A l) (hM : KMap w M []) (hC : CK d s b m n G N KB AB MB M w) :
    Calls Tryz.prog 39 #[.slice A l.length c, .int .i64 32, .func (.func 37) #[] #[.pointer (some ⟨G, 0, none⟩), .pointer (some ⟨N, 0, none⟩)],
      .func (.func 65) #[] #[.pointer (some ⟨KB, 0, none⟩), .pointer (some ⟨AB, 0, none⟩), .pointer (some ⟨MB, 0, none⟩)]] w
      fun e w' => e = .returned (.int .i64 (if 32 < l.length then 2 else goL d s b m n [] l)) ∧ w.grownBy w' (some M) := by
  have eg1 : ∀ args w, (callFunc 37 args).run Tryz.prog w = .ok (.enter 37 args) w := enters_of Tryz.func37 (by kernel_rfl) rfl
  have eg2 : ∀ args w, (callFunc 65 args).run Tryz.prog w = .ok (.enter 65 args) w := enters_of Tryz.func65 (by kernel_rfl) rfl
  obtain ⟨R, hR⟩ : ∃ R, (if 32 < l.length then 2 else goL d s b m n [] l) = R := ⟨_, rfl⟩
  rw [hR]
  have hg0 : w.grownBy w (some M) := grown_none (below_grown (Below.refl _ w) (Nat.le_refl _))
  by_cases h32 : 32 < l.length
  · rw [if_pos h32] at hR
    subst hR
    have hz : (32 : Int) < (l.length : Int) := by omega
    have HG0 := hid hg0
    clear hg0 hC hM h h32
    go_enter Tryz.func39, Tryz.ntmps39
    go_wp2
    go_ret
    exact ⟨rfl, HG0.out⟩
  · rw [if_neg h32] at hR
    have hz : ¬ (32 : Int) < (l.length : Int) := by omega
    have HR : Hid (goL d s b m n (codesL (l.take 0)) (l.drop 0) = R) := hid hR
    have HM := hid hM
    have HC := hid hC
    have HH := hid h
    have HG0 := hid hg0
    have HMl := hid hM.lt
    clear hR hg0 hC hM h
    go_enter Tryz.func39, Tryz.ntmps39
    go_wp2
    go_loopw [10, 11, 12, 19] (fun _ _ _ iv wr => ∃ i : Nat, iv = .int .i64 (i : Int) ∧ i ≤ l.length ∧ Hid (goL d s b m n (codesL (l.take i)) (l.drop i) = R) ∧ Hid (KMap wr M (codesL (l.take i))) ∧ Hid (w.grownBy wr (some M))) (fun _ _ _ iv _ => l.length - (RowKit.intOf iv).toNat)
    case atStart => exact ⟨0, rfl, Nat.zero_le _, HR, hid HM.out, HG0⟩
    case round =>
      obtain ⟨i, rfl, hi, hE, hS, hK⟩ := hrel
      by_cases hlt : i < l.length
      · have hltz : (i : Int) < (l.length : Int) := by omega
        have hst := goL_step d s b m n l i hlt
        rw [hE.out] at hst
        have hcl : (codesL (l.take i)).length = i := by simp [codesL]; omega
        have hCr := HC.out.grown hK.out
        obtain ⟨fb, fo, q, rfl, hfb, hri, y0, y1⟩ := (HH.out.kept (fun k hk => hK.out.block k (Nat.lt_trans hk HMl.out) (fun e => by injection e with e; omega))).at_ hlt
        have hadd : codesL (l.take (i + 1)) = codesL (l.take i) ++ [l[i].1] := by rw [List.take_succ_eq_append_getElem hlt]; unfold codesL; rw [List.map_append]; rfl
        have hMwr : M < wr.heap.size := Nat.lt_of_lt_of_le HMl.out hK.out.size
        have hb1 := (Below.refl wr.heap.size wr).alloc (Nat.le_refl _) (.cells #[.string (ba l[i].1), .slice q.1 l[i].2.length q.2] 34)
        have hX := Box2.new wr (.string (ba l[i].1)) (.slice q.1 l[i].2.length q.2)
        have hs1 : (wr.alloc (.cells #[.string (ba l[i].1), .slice q.1 l[i].2.length q.2] 34)).heap.size = wr.heap.size + 1 := by simp
        obtain ⟨w1, hw1⟩ : ∃ w1, wr.alloc (.cells #[.string (ba l[i].1), .slice q.1 l[i].2.length q.2] 34) = w1 := ⟨_, rfl⟩
        rw [hw1] at hb1 hX hs1
        have hg1 := grown_under hK.out hb1
        have hC1 := HC.out.grown hg1
        have hS1 := hS.out.below hb1
        have cC := lcheck1_any d s b m n l[i] q G N w1 hC1.g hC1.n.cell hC1.n.lt ((hri.kept (fun k hk => hb1.block k (Nat.lt_trans hk hMwr))).mono (fun k hk => by have := hb1.size; omega))
        have hcode : lectM d s b m n l[i] = 0 → l[i].1.length ≤ 16 := fun h => validC_len (lectM_code h)
        unfold Says lectV at cC
        obtain ⟨⟨code, ts⟩, hr⟩ : ∃ r, l[i] = r := ⟨_, rfl⟩
        rw [hr] at hst y0 y1 cC hadd hcode hX hw1
        dsimp only at hst y0 y1 cC hadd hX hw1
        obtain ⟨E, hE2⟩ : ∃ E, lectM d s b m n (code, ts) = E := ⟨_, rfl⟩
        rw [hE2] at cC hst hcode
        dsimp only at hcode
        obtain ⟨X1, hX1⟩ : ∃ X, ba code = X := ⟨_, rfl⟩
        obtain ⟨T1, hT1⟩ : ∃ F, ts.length = F := ⟨_, rfl⟩
        rw [hX1] at y0 cC hX hw1
        rw [hT1] at y1 cC hX hw1
        have hX1l : lst X1 = code := by rw [← hX1]; rfl
        have HXL := hid hX1l
        have HST := hid hst
        have HADD := hid hadd
        have HCODE := hid hcode
        have HCL := hid hcl
        have HW1 := hid hw1
        have HX := hid hX
        have HC1 := hid hC1
        have HG1 := hid hg1
        have HS1 := hid hS1
        have HZ1 := hid hs1
        have CC := hid cC
        clear hr hE2 hX1 hT1 hX1l hst hadd hcode hcl hw1 hX hC1 hg1 hS1 hs1 cC hri hfb hE hK hS hb1 hCr hMwr
        by_cases hE0 : E = 0
        · subst hE0
          have hst := HST.out
          rw [if_neg (by simp)] at hst
          have hcl16 := HCODE.out rfl
          by_cases hm : code ∈ codesL (l.take i)
          · rw [if_pos hm] at hst
            have HRR := hid hst
            clear hst
            go_wp2_with fail
            rw [HW1.out]
            refine CC.out.mono ?_
            rintro e w2 ⟨rfl, hb2⟩
            have hX2 := HX.out.next hb2
            have hS2 := HS1.out.below hb2
            have hg2 := grown_under HG1.out hb2
            have hC2 := HC.out.grown hg2
            obtain ⟨z0, z1⟩ := hX2.cells
            have cA := dist_any KB AB MB M (codesL (l.take i)) X1 q.1 T1 q.2 (by rw [HCL.out]; omega) (by rw [Lib.size_eq]; show (lst X1).length ≤ maxLen; rw [HXL.out]; unfold maxLen; omega) w2 hC2.d hS2
            unfold AddOutK at cA
            rw [HXL.out, addK_dup hm] at cA
            dsimp only at cA
            have CA := hid cA
            have HG2 := hid hg2
            clear cA hC2 hS2 hX2 hb2 hg2 hm
            go_wp2_with fail
            refine CA.out.mono ?_
            rintro e w3 ⟨rfl, hS3, hg3⟩
            have HG3 := hid (HG2.out.andThen hg3 (fun j hj => .inr hj))
            clear hg3 hS3
            go_wp2
            go_ret
            rw [HRR.out]
            exact ⟨rfl, HG3.out⟩
          · rw [if_neg hm] at hst
            have HRR := hid hst
            clear hst
            go_wp2_with fail
            rw [HW1.out]
            refine CC.out.mono ?_
            rintro e w2 ⟨rfl, hb2⟩
            have hX2 := HX.out.next hb2
            have hS2 := HS1.out.below hb2
            have hg2 := grown_under HG1.out hb2
            have hC2 := HC.out.grown hg2
            obtain ⟨z0, z1⟩ := hX2.cells
            have cA := dist_any KB AB MB M (codesL (l.take i)) X1 q.1 T1 q.2 (by rw [HCL.out]; omega) (by rw [Lib.size_eq]; show (lst X1).length ≤ maxLen; rw [HXL.out]; unfold maxLen; omega) w2 hC2.d hS2
            unfold AddOutK at cA
            rw [HXL.out, addK_ok hm (by rw [HCL.out]; omega)] at cA
            dsimp only at cA
            rw [← HADD.out] at cA
            have CA := hid cA
            have HG2 := hid hg2
            clear cA hC2 hS2 hX2 hb2 hg2 hm
            go_wp2_with fail
            refine CA.out.mono ?_
            rintro e w3 ⟨rfl, hS3, hg3⟩
            have HG3 := hid (HG2.out.andThen hg3 (fun j hj => .inr hj))
            have HS3 := hid hS3
            clear hg3 hS3
            go_wp2
            go_roundw
            case rel => exact ⟨i + 1, by go_num, by omega, hid HRR.out.symm, hid HS3.out, hid HG3.out⟩
            case measure => simp [RowKit.intOf]; omega
        · have hst := HST.out
          rw [if_pos hE0] at hst
          have HRR := hid hst
          have hE0' : (E != 0) = true := by simpa using hE0
          have hE0'' : (E == 0) = false := by simpa using hE0
          clear hst
          go_wp2_with fail
          rw [HW1.out]
          refine CC.out.mono ?_
          rintro e w2 ⟨rfl, hb2⟩
          have HG2 := hid (grown_under HG1.out hb2)
          clear hb2
          go_wp2
          go_ret
          rw [HRR.out]
          exact ⟨rfl, HG2.out⟩
      · have hltz : ¬ (i : Int) < (l.length : Int) := by omega
        have hn : Hid (R = 0) := hid (by rw [← hE.out, List.drop_of_length_le (by omega)]; rfl)
        go_wp2
        go_ret
        rw [hn.out]
        exact ⟨rfl, hK.out⟩
set_option maxHeartbeats 16000000 in
set_option maxRecDepth 100000 in
theorem lvalid_any (d s b m n : Int) (A : Option Addr) (l : List LectD) (c : Nat) (w : World) (h : LectsIn w (fun k => k < w.heap.size) A l) :
    Calls Tryz.prog 13 #[.slice A l.length c, .agg #[.int .i64 d, .int .i64 s, .int .i64 b, .int .i64 m], .int .i64 n] w (Says (.int .i64 (validL d s b m n l)) w) := by
  have cF := fun w => rframe_any d s b m n w
  unfold Says at cF ⊢
  have hG := Box4.new w d s b m 24
  have hb1 := (Below.refl w.heap.size w).alloc (Nat.le_refl _) (.cells #[.int .i64 d, .int .i64 s, .int .i64 b, .int .i64 m] 24)
  have hs1 : (w.alloc (.cells #[.int .i64 d, .int .i64 s, .int .i64 b, .int .i64 m] 24)).heap.size = w.heap.size + 1 := by simp
  obtain ⟨w1, hw1⟩ : ∃ w1, w.alloc (.cells #[.int .i64 d, .int .i64 s, .int .i64 b, .int .i64 m] 24) = w1 := ⟨_, rfl⟩
  rw [hw1] at hG hb1 hs1
  have hN := Box1.new w1 3 (.int .i64 n)
  have hb2 := (Below.refl w1.heap.size w1).alloc (Nat.le_refl _) (.cells #[.int .i64 n] 3)
  obtain ⟨w2, hw2⟩ : ∃ w2, w1.alloc (.cells #[.int .i64 n] 3) = w2 := ⟨_, rfl⟩
  rw [hw2] at hN hb2
  rw [hs1] at hN
  have hG2 := hG.next hb2 hG.lt
  have hb := hb1.trans (hb2.mono (by omega))
  have HG := hid hG2
  have HN := hid hN
  have HB := hid hb
  have HW1 := hid hw1
  have HW2 := hid hw2
  have HH := hid h
  clear hG hb1 hs1 hw1 hN hb2 hw2 hG2 hb h
  cases hf : frameB d s b m n with
  | false =>
    rw [hf] at cF
    have hR : validL d s b m n l = 1 := by unfold validL; rw [if_pos hf]
    rw [hR]
    clear hf hR
    go_enter Tryz.func13, Tryz.ntmps13
    go_wp2_with fail
    (try rw [HW1.out])
    (try rw [HW2.out])
    refine (cF _).mono ?_
    rintro e w3 ⟨rfl, hb3⟩
    have HB3 := hid (HB.out.trans (hb3.mono HB.out.size))
    clear hb3
    go_wp2
    go_ret
    exact ⟨rfl, HB3.out⟩
  | true =>
    rw [hf] at cF
    have hR : validL d s b m n l = if 32 < l.length then 2 else goL d s b m n [] l := by unfold validL; rw [if_neg (by simp [hf])]
    obtain ⟨R, hR'⟩ : ∃ R, validL d s b m n l = R := ⟨_, rfl⟩
    rw [hR']
    rw [hR'] at hR
    have HR := hid hR
    clear hf hR hR'
    go_enter Tryz.func13, Tryz.ntmps13
    go_wp2_with fail
    (try rw [HW1.out])
    (try rw [HW2.out])
    refine (cF _).mono ?_
    rintro e w3 ⟨rfl, hb3⟩
    have hB3 := HB.out.trans (hb3.mono HB.out.size)
    have hG3 := HG.out.next hb3 HG.out.lt
    have hN3 := HN.out.next hb3
    have HB3 := hid hB3
    have HG3 := hid hG3
    have HN3 := hid hN3
    clear hb3 hB3 hG3 hN3
    go_wp2_with fail
    refine (distinct_any w3).mono ?_
    rintro e w4 ⟨KB, AB, MB, M, rfl, hD, hM, hM4, k1, k2, k3, hb4⟩
    have hG4 := HG3.out.next hb4 HG3.out.lt
    have hN4 := HN3.out.next hb4
    have hgl := HG3.out.lt
    have hnl := HN3.out.lt
    have hc := chk_any d s b m n A l c w.heap.size (w.heap.size + 1) KB AB MB M w4 (((HH.out.below HB3.out).kept (fun k hk => hb4.block k (by omega))).mono (fun k hk => by omega)) hM ⟨hG4, hN4, hD, by omega, by omega, k1, k2, k3⟩
    rw [← HR.out] at hc
    have HC := hid hc
    have HB4 := hid (HB3.out.trans (hb4.mono HB3.out.size))
    have HML : Hid (w.heap.size ≤ M) := hid (by have := HB3.out.size; omega)
    have HM4 := hid hM.lt
    clear hc hD hM hM4 k1 k2 k3 hb4 hG4 hN4 hgl hnl
    go_wp2_with fail
    refine HC.out.mono ?_
    rintro e w5 ⟨rfl, hg5⟩
    have HB5 := hid (HB4.out.grown hg5 HB4.out.size (fun k e => by injection e with e; rw [← e]; exact HML.out))
    clear hg5
    go_wp2
    go_ret
    exact ⟨rfl, HB5.out⟩
end Go.Proofs.YtnpfmoalgphkcaaGreatDoor
namespace Go.Proofs.YtnpfmoalgphkcaaGreatDoor.S9
open Go Go.Proofs Go.RowKit Go.Lib Go.Proofs.YtnpfmoalgphkcaaGreatDoor
set_option maxHeartbeats 16000000 in
set_option maxRecDepth 100000 in
theorem entries_any (d s b m n : Int) (A : Option Addr) (l : List RecD) (c M G N KB AB MB : Nat) (w : World) (hM : M < w.heap.size) (h : RecsIn w (fun k => k < M) A l) (hl : l.length ≤ 1073741824)
    (hsz : ∀ x ∈ l, ∀ f ∈ x.2, f.1.length < 4294967281) (hE : ∀ W, Below M w W → Env7 W) (hC : CK d s b m n G N KB AB MB M w) (hK : KMap w M []) :
    Calls Tryz.prog 49 #[.slice A l.length c, .int .i64 2, .func (.func 47) #[] #[.pointer (some ⟨G, 0, none⟩), .pointer (some ⟨N, 0, none⟩)], .func (.func 65) #[] #[.pointer (some ⟨KB, 0, none⟩), .pointer (some ⟨AB, 0, none⟩), .pointer (some ⟨MB, 0, none⟩)]] w (EntsOut M (recsM d s b m n l) w) := by
  obtain ⟨i4, hi4, hz4, hs4, hb4⟩ := info_parts infoProb
  obtain ⟨i5, hi5, hz5, hs5, hb5⟩ := info_parts infoLect
  have ea : ∀ args w, (callFunc 65 args).run Tryz.prog w = .ok (.enter 65 args) w := enters_of Tryz.func65 (by kernel_rfl) rfl
  have hI0 := EInv.start (M := M) hK
  have HH := hid h
  have HSZ := hid hsz
  have HE := hid hE
  have HC := hid hC
  have HI0 := hid hI0
  clear h hsz hE hC hK hI0
  unfold EntsOut
  go_enter Tryz.func49, Tryz.ntmps49
  go_wp2
  go_loopw [10, 11, 13, 19] (fun u1 u2 _ iv wr => ∃ (i : Nat) (A1 : Option Addr) (n1 c1 : Nat) (A2 : Option Addr) (n2 c2 : Nat), u1 = .slice A1 n1 c1 ∧ u2 = .slice A2 n2 c2 ∧ iv = .int .i64 (i : Int) ∧ i ≤ l.length ∧ Hid (EInv M w (recsM d s b m n (l.take i)).1 (recsM d s b m n (l.take i)).2 (codesL (recsM d s b m n (l.take i)).1) (.slice A1 n1 c1) (.slice A2 n2 c2) wr)) (fun _ _ _ iv _ => l.length - (RowKit.intOf iv).toNat)
  case atStart => exact ⟨0, _, _, _, _, _, _, rfl, rfl, rfl, Nat.zero_le _, hid HI0.out⟩
  case round =>
    obtain ⟨i, A1, n1, c1, A2, n2, c2, rfl, rfl, rfl, hi, hI⟩ := hrel
    have hMs : M < wr.heap.size := hI.out.map.lt
    obtain ⟨Lr0, hL0, ho0, hr0⟩ := hI.out.row
    have hlt1 : ∀ k, (Value.slice A1 n1 c1).ownBlock = some k → k < wr.heap.size := fun k e => (own_lt ho0 k e).2
    have hlt2 : ∀ k, (Value.slice A2 n2 c2).ownBlock = some k → k < wr.heap.size := fun k e => (own_lt hI.out.probs k e).2
    have HL1 := hid hlt1
    have HL2 := hid hlt2
    have HMS := hid hMs
    have hws := (hI.out.below hM).size
    have HWS := hid hws
    clear hL0 ho0 hr0 hlt1 hlt2 hMs hws
    by_cases hlt : i < l.length
    · have hltz : (i : Int) < (l.length : Int) := by omega
      obtain ⟨fb, fo, A', c', rfl, hfb, hfi, hc1, hc2, y0, y1⟩ := HH.out.at_ hlt
      have kc : ∀ o : Nat, wr.cell? ⟨fb, o, none⟩ = w.cell? ⟨fb, o, none⟩ := fun o => (hI.out.below hM).cell (p := ⟨fb, o, none⟩) hfb
      rw [← kc] at y0 y1
      have hst := recsM_take d s b m n l i hlt
      have hrl := recsM_len d s b m n (l.take i)
      have hpl := recsM_probs d s b m n (l.take i)
      rw [List.length_take] at hpl
      have hszi := HSZ.out _ (List.getElem_mem hlt)
      obtain ⟨⟨rs, ps⟩, hst0⟩ : ∃ S, recsM d s b m n (l.take i) = S := ⟨_, rfl⟩
      rw [hst0] at hst hrl hpl hI
      obtain ⟨⟨line, fs⟩, hx⟩ : ∃ X, l[i] = X := ⟨_, rfl⟩
      rw [hx] at hfi hc1 y0 y1 hst hszi
      dsimp only at hfi hc1 y0 y1 hst hszi hrl hpl hI
      obtain ⟨F, hF⟩ : ∃ F, fs.length = F := ⟨_, rfl⟩
      have hw1 := (Below.refl wr.heap.size wr).alloc (Nat.le_refl _) (.cells #[.int .i64 line, .slice A' F c'] 42)
      have e1 := heap_alloc_new wr (.cells #[.int .i64 line, .slice A' F c'] 42)
      have hs1 : (wr.alloc (.cells #[.int .i64 line, .slice A' F c'] 42)).heap.size = wr.heap.size + 1 := by simp
      have x0 : (wr.alloc (.cells #[.int .i64 line, .slice A' F c'] 42)).cell? ⟨wr.heap.size, 0, none⟩ = some (.int .i64 line) := by rw [Lib.cell_of_heap e1]; rfl
      have x1 : (wr.alloc (.cells #[.int .i64 line, .slice A' F c'] 42)).cell? ⟨wr.heap.size, 1, none⟩ = some (.slice A' F c') := by rw [Lib.cell_of_heap e1]; rfl
      have hMw1 : Below M w (wr.alloc (.cells #[.int .i64 line, .slice A' F c'] 42)) := (hI.out.below hM).trans (hw1.mono (Nat.le_of_lt HMS.out))
      have hGw1 : w.grownBy (wr.alloc (.cells #[.int .i64 line, .slice A' F c'] 42)) (some M) := grown_under hI.out.gr hw1
      have cE := readEntry_any d s b m n A' fs c' M G N (wr.alloc (.cells #[.int .i64 line, .slice A' F c'] 42)) (by rw [hs1]; have := HMS.out; omega) (hfi.below hMw1) hc1 hc2
        (fun W R j x r q hb hR hj hf hX hR' => by
          obtain ⟨f, hf1, rfl⟩ := hf
          have q1 := HE.out W (hMw1.trans (hb.mono (by rw [hs1]; have := HMS.out; omega)))
          have qc := HC.out.grown (grown_under hGw1 hb)
          exact read1_any d s b m n f.1 r q R W hX hR' q1 (hszi f hf1) j hj G N qc.g qc.n.cell)
      rw [hF] at cE y1
      unfold EntryOut at cE
      obtain ⟨⟨r, col, e0⟩, hen⟩ : ∃ S, entryM d s b m n fs = S := ⟨_, rfl⟩
      have hrec : recM d s b m n (rs, ps) (line, fs) = if e0 ≠ 0 then (rs, ps ++ [(line, col, e0)]) else if addC rs r.1 ≠ 0 then (rs, ps ++ [(line, col, addC rs r.1)]) else (rs ++ [r], ps) := by unfold recM; rw [hen]
      rw [hrec] at hst
      rw [hen] at cE
      have CE := hid cE
      have HST := hid hst
      have HI := hid hI.out
      have HE1 := hid e1
      have HW1 := hid hw1
      have HS1 := hid hs1
      have HX := hid hx
      have HST0 := hid hst0
      have HFI := hid hfi
      have HSZI := hid hszi
      have HEN := hid hen
      clear hst hst0 hI e1 hw1 hs1 hx hfi hszi hen hrec kc cE hMw1 hGw1 hF
      go_wp2_with fail
      generalize wr.alloc (.cells #[.int .i64 line, .slice A' F c'] 42) = w1 at CE HE1 HW1 HS1 x0 x1 ⊢
      refine CE.out.mono ?_
      rintro e w2 ⟨⟨q, rfl, hroom⟩, hb2⟩
      have hrl1 : r.1.length < 4294967281 := by
        have := entryM_code d s b m n 4294967281 (by omega) fs HSZI.out
        rw [HEN.out] at this
        exact this
      have hcsz : (ba r.1).size ≤ maxLen := by rw [Lib.size_eq]; show r.1.length ≤ maxLen; unfold maxLen; omega
      have hcl : (codesL rs).length ≤ 32 := by simpa [codesL] using hrl
      have hvs : lectV r q = .agg #[.string (ba r.1), .slice q.1 r.2.length q.2] := rfl
      rw [hvs]
      have hw3 := (Below.refl w2.heap.size w2).alloc (Nat.le_refl _) (.cells #[.string (ba r.1), .slice q.1 r.2.length q.2] 34)
      have hB5 := Box2.new w2 (.string (ba r.1)) (.slice q.1 r.2.length q.2)
      have hs3 : (w2.alloc (.cells #[.string (ba r.1), .slice q.1 r.2.length q.2] 34)).heap.size = w2.heap.size + 1 := by simp
      obtain ⟨w3, hw3e⟩ : ∃ w3, w2.alloc (.cells #[.string (ba r.1), .slice q.1 r.2.length q.2] 34) = w3 := ⟨_, rfl⟩
      rw [hw3e] at hw3 hB5 hs3
      have hb13 : Below wr.heap.size wr w3 := HW1.out.trans ((hb2.mono (by rw [HS1.out]; omega)).trans (hw3.mono (by have := hb2.size; have := HW1.out.size; omega)))
      have hI3 := HI.out.under hM hb13
      have hroom3 : LectIn w3 (fun k => w1.heap.size ≤ k ∧ k < w3.heap.size) r q := (hroom.kept (fun k hk => hw3.block k hk.2)).mono (fun k hk => ⟨hk.1, by omega⟩)
      have x03 : w3.cell? ⟨wr.heap.size, 0, none⟩ = some (.int .i64 line) := by
        rw [hw3.cell (p := ⟨wr.heap.size, 0, none⟩) (by have := hb2.size; have := HS1.out; show wr.heap.size < w2.heap.size; omega), hb2.cell (p := ⟨wr.heap.size, 0, none⟩) (by have := HS1.out; show wr.heap.size < w1.heap.size; omega)]
        exact x0
      have hz3 : wr.heap.size < w3.heap.size := by have := hb2.size; have := HS1.out; omega
      have HI3 := hid hI3
      have HR3 := hid hroom3
      have HB5 := hid hB5
      have HZ3 := hid hz3
      have HS3 := hid hs3
      have HZ2 := hid hb2.size
      clear hI3 hroom3 hB5 hb13 hw3 hroom hb2 x0 x1 hvs hz3 hs3
      by_cases he : e0 = 0
      · subst he
        have hst := HST.out
        rw [if_neg (by simp)] at hst
        have hac := addM_codes rs r.1
        have hD3 := (HC.out.grown HI3.out.gr).d
        have cA := fun W (h : KMap W M (codesL rs)) (hd : DistIn W KB AB MB M) => dist_any KB AB MB M (codesL rs) (ba r.1) q.1 r.2.length q.2 hcl hcsz W hd h
        have cA3 := cA w3 HI3.out.map hD3
        unfold AddOutK at cA3
        rw [lst_ba, hac.1, hac.2] at cA3
        obtain ⟨e1, he1⟩ : ∃ e1, addC rs r.1 = e1 := ⟨_, rfl⟩
        rw [he1] at cA3 hst
        have CA := hid cA3
        obtain ⟨y0', y1'⟩ := HB5.out.cells
        clear cA cA3 hac hD3
        by_cases he2 : e1 = 0
        · subst he2
          rw [if_neg (by simp)] at hst
          have HSTF := hid hst
          clear hst
          go_wp2_with fail
          refine CA.out.mono ?_
          rintro e w4 ⟨rfl, hk4, hg4⟩
          rw [if_pos trivial] at hk4
          have hk4' : KMap w4 M (codesL (rs ++ [r])) := by simpa [codesL] using hk4
          have hI4 := HI3.out.past hM hg4 hk4'
          have hM3 := (HI3.out.below hM).size
          have hMw : M < w3.heap.size := HI3.out.map.lt
          have hB54 := HB5.out.kept (hg4.block w2.heap.size (by have := HS3.out; omega) (fun e => by injection e; have := HI.out.map.lt; have := HZ2.out; have := HS1.out; omega))
          have hR4 : LectIn w4 (fun k => w1.heap.size ≤ k ∧ k < w4.heap.size) r q := (HR3.out.kept (fun k hk => hg4.block k hk.2 (fun e => by injection e; have := HI.out.map.lt; have := HS1.out; have := hk.1; omega))).mono (fun k hk => ⟨hk.1, Nat.lt_of_lt_of_le hk.2 hg4.size⟩)
          obtain ⟨Lr0, hL0, ho0, hr0⟩ := hI4.row
          have HRR := hid hr0
          have hz4 : wr.heap.size < w4.heap.size := Nat.lt_of_lt_of_le HZ3.out hg4.size
          have hrz : rs.length = n1 := by
            have hl0 : Lr0.length = rs.length := by rw [← hL0, List.length_map]
            rcases ho0.2 with ⟨hv, h0⟩ | ⟨g, cap, cur, hv, _⟩
            · injection hv with _ h1 _; omega
            · injection hv with _ h1 _; omega
          have hl0 : Lr0.length = n1 := by rw [← hrz, ← hL0, List.length_map]
          rw [hl0] at ho0
          have HMX : Hid (n1 + 1 ≤ maxLen) := hid (by unfold maxLen; omega)
          have HBY : Hid ((n1 + 1) * 40 ≤ 140737488355328) := hid (by omega)
          have HO0 := hid ho0
          have HL0 := hid hL0
          have HLL0 := hid hl0
          have HRZ := hid hrz
          have HI4 := hid hI4
          have HR4 := hid hR4
          have HN5 : Hid (∀ (j : Nat) (u : Value), (lectVs r q)[j]? = some u → (w4.alloc (.cells #[.string (ba r.1), .slice q.1 r.2.length q.2] 34)).cell? ((⟨w4.heap.size, 0, none⟩ : Addr).add j) = some u) := hid (two_new w4 r q)
          have HON : Hid (∀ u ∈ lectVs r q, u.oneCell' = true) := hid (lect_one r q)
          have HW4S : Hid (w.heap.size ≤ (w4.alloc (.cells #[.string (ba r.1), .slice q.1 r.2.length q.2] 34)).heap.size) := hid (by have := HWS.out; simp; omega)
          obtain ⟨z0', z1'⟩ := hB54.cells
          clear hr0 hI4 hR4 hB54 hk4 hk4' hg4 ho0 hL0 hl0 hM3 hMw hrz y0' y1'
          go_wp2_with (at_builtin; refine wpList_append_own_at _ rfl _ _ 22 rfl w.heap.size 34 i5 (.agg #[.string ⟨#[]⟩, .slice none 0 0]) 2 40 Tryz.underlying22 hi5 hz5 hs5 hb5 rfl (by decide) _ n1 (lectVals Lr0) rfl (World.ownsRow.alloc HO0.out _) ⟨w4.heap.size, 0, none⟩ 1 1 (lectVs r q) rfl rfl HN5.out HON.out HMX.out HBY.out HW4S.out ?_)
          intro v' w5 hown' hgrow hnil hat
          obtain ⟨g', cap', rfl⟩ := ownsRow_succ (k := n1) hown'
          have hI5 := EInv.room (C := w1.heap.size) HI4.out hM HR4.out (by have := HWS.out; have := HS1.out; omega) (fun k e => by have := HL1.out k e; have := HS1.out; omega) (fun k e => by have := HL2.out k e; have := HS1.out; omega) HL0.out (by rw [HLL0.out]; exact HO0.out) HRR.out (v1' := .slice (some ⟨g', 0, none⟩) (n1 + 1) cap') (by rw [HLL0.out]; exact hown') (grownBy_of_alloc hgrow) (hat.imp id (fun h => ⟨_, h, by simp⟩))
          have HI5 : Hid (EInv M w (recsM d s b m n (l.take (i + 1))).1 (recsM d s b m n (l.take (i + 1))).2 (codesL (recsM d s b m n (l.take (i + 1))).1) (.slice (some ⟨g', 0, none⟩) (n1 + 1) cap') (.slice A2 n2 c2) w5) := hid (by rw [HSTF.out]; exact hI5)
          clear hI5 hown' hgrow hnil hat
          go_wp2_with fail
          go_roundw
          case rel => exact ⟨i + 1, _, _, _, _, _, _, rfl, rfl, by go_num, by omega, HI5⟩
          case measure => simp [RowKit.intOf]; omega
        · rw [if_pos he2] at hst
          have HSTF := hid hst
          have HNE := hid he2
          clear hst
          go_wp2_with fail
          refine CA.out.mono ?_
          rintro e w4 ⟨rfl, hk4, hg4⟩
          rw [if_neg he2] at hk4
          have hI4 := HI3.out.past hM hg4 hk4
          have x04 : w4.cell? ⟨wr.heap.size, 0, none⟩ = some (.int .i64 line) := (World.cell?_of_block (w := w3) (hg4.block wr.heap.size HZ3.out (fun e => by injection e; have := HI.out.map.lt; omega))).trans x03
          have HI4 := hid hI4
          clear hI4 hk4 hg4 y0' y1'
          have hne2 : (e1 != 0) = true := by simpa using HNE.out
          have hpz : ps.length = n2 := by
            rcases HI4.out.probs.2 with ⟨hv, h0⟩ | ⟨g, cap, cur, hv, _⟩
            · injection hv with _ h1 _; omega
            · injection hv with _ h1 _; omega
          have HMX : Hid (n2 + 1 ≤ maxLen) := hid (by unfold maxLen; omega)
          have HBY : Hid ((n2 + 1) * 32 ≤ 140737488355328) := hid (by omega)
          have hprow : ProbsRow w4 w.heap.size (.slice A2 n2 c2) ps := HI4.out.probs
          unfold ProbsRow at hprow
          rw [hpz] at hprow
          have HPR := hid hprow
          have HN4 : Hid (∀ (j : Nat) (u : Value), (probVs (line, col, e1))[j]? = some u → (w4.alloc (.cells #[.int .i64 0, .int .i64 line, .int .i64 col, .int .i64 e1] 79)).cell? ((⟨w4.heap.size, 0, none⟩ : Addr).add j) = some u) := hid (four_new w4 0 line col e1 79)
          have HON : Hid (∀ u ∈ probVs (line, col, e1), u.oneCell' = true) := hid (times_one (0, line, col, e1))
          have HWZ := hid (HI4.out.below hM).size
          have HW3S : Hid (w.heap.size ≤ (w4.alloc (.cells #[.int .i64 0, .int .i64 line, .int .i64 col, .int .i64 e1] 79)).heap.size) := hid (by have := HWZ.out; simp; omega)
          clear hprow
          go_wp2_with (at_builtin; (try rw [hw3e]); refine wpList_append_own_at _ rfl _ _ 43 rfl w.heap.size 79 i4 (.agg #[.int .i64 0, .int .i64 0, .int .i64 0, .int .i64 0]) 4 32 Tryz.underlying43 hi4 hz4 hs4 hb4 rfl (by decide) _ n2 (probVals ps) rfl (World.ownsRow.alloc HPR.out _) ⟨w4.heap.size, 0, none⟩ 1 1 (probVs (line, col, e1)) rfl rfl HN4.out HON.out HMX.out HBY.out HW3S.out ?_)
          intro v' w5 hown' hgrow hnil hat
          obtain ⟨g', cap', rfl⟩ := ownsRow_succ (k := n2) hown'
          have hI5 := HI4.out.prob (p := (line, col, e1)) hM (v2' := .slice (some ⟨g', 0, none⟩) (n2 + 1) cap') (by unfold ProbsRow; rw [probVals_app, List.length_append, hpz]; simpa [probVals] using hown') (grownBy_of_alloc hgrow) (hat.imp id (fun h => ⟨_, h, by simp⟩))
          have HI5 : Hid (EInv M w (recsM d s b m n (l.take (i + 1))).1 (recsM d s b m n (l.take (i + 1))).2 (codesL (recsM d s b m n (l.take (i + 1))).1) (.slice A1 n1 c1) (.slice (some ⟨g', 0, none⟩) (n2 + 1) cap') w5) := hid (by rw [HSTF.out]; exact hI5)
          clear hI5 hown' hgrow hnil hat
          go_wp2_with fail
          go_roundw
          case rel => exact ⟨i + 1, _, _, _, _, _, _, rfl, rfl, by go_num, by omega, HI5⟩
          case measure => simp [RowKit.intOf]; omega
      · have hst := HST.out
        rw [if_pos he] at hst
        have HSTF := hid hst
        clear hst
        have hne : (e0 == 0) = false := by simpa using he
        have HNE := hid he
        have hne2 : (e0 != 0) = true := by simpa using HNE.out
        have hpz : ps.length = n2 := by
          rcases HI3.out.probs.2 with ⟨hv, h0⟩ | ⟨g, cap, cur, hv, _⟩
          · injection hv with _ h1 _; omega
          · injection hv with _ h1 _; omega
        have HMX : Hid (n2 + 1 ≤ maxLen) := hid (by unfold maxLen; omega)
        have HBY : Hid ((n2 + 1) * 32 ≤ 140737488355328) := hid (by omega)
        have hprow : ProbsRow w3 w.heap.size (.slice A2 n2 c2) ps := HI3.out.probs
        unfold ProbsRow at hprow
        rw [hpz] at hprow
        have HPR := hid hprow
        have HN4 : Hid (∀ (j : Nat) (u : Value), (probVs (line, col, e0))[j]? = some u → (w3.alloc (.cells #[.int .i64 0, .int .i64 line, .int .i64 col, .int .i64 e0] 79)).cell? ((⟨w3.heap.size, 0, none⟩ : Addr).add j) = some u) := hid (four_new w3 0 line col e0 79)
        have HON : Hid (∀ u ∈ probVs (line, col, e0), u.oneCell' = true) := hid (times_one (0, line, col, e0))
        have HWZ := hid (HI3.out.below hM).size
        have HW3S : Hid (w.heap.size ≤ (w3.alloc (.cells #[.int .i64 0, .int .i64 line, .int .i64 col, .int .i64 e0] 79)).heap.size) := hid (by have := HWZ.out; simp; omega)
        clear hprow
        go_wp2_with (at_builtin; (try rw [hw3e]); refine wpList_append_own_at _ rfl _ _ 43 rfl w.heap.size 79 i4 (.agg #[.int .i64 0, .int .i64 0, .int .i64 0, .int .i64 0]) 4 32 Tryz.underlying43 hi4 hz4 hs4 hb4 rfl (by decide) _ n2 (probVals ps) rfl (World.ownsRow.alloc HPR.out _) ⟨w3.heap.size, 0, none⟩ 1 1 (probVs (line, col, e0)) rfl rfl HN4.out HON.out HMX.out HBY.out HW3S.out ?_)
        intro v' w5 hown' hgrow hnil hat
        obtain ⟨g', cap', rfl⟩ := ownsRow_succ (k := n2) hown'
        have hI5 := HI3.out.prob (p := (line, col, e0)) hM (v2' := .slice (some ⟨g', 0, none⟩) (n2 + 1) cap') (by unfold ProbsRow; rw [probVals_app, List.length_append, hpz]; simpa [probVals] using hown') (grownBy_of_alloc hgrow) (hat.imp id (fun h => ⟨_, h, by simp⟩))
        have HI5 : Hid (EInv M w (recsM d s b m n (l.take (i + 1))).1 (recsM d s b m n (l.take (i + 1))).2 (codesL (recsM d s b m n (l.take (i + 1))).1) (.slice A1 n1 c1) (.slice (some ⟨g', 0, none⟩) (n2 + 1) cap') w5) := hid (by rw [HSTF.out]; exact hI5)
        clear hI5 hown' hgrow hnil hat
        go_wp2_with fail
        go_roundw
        case rel => exact ⟨i + 1, _, _, _, _, _, _, rfl, rfl, by go_num, by omega, HI5⟩
        case measure => simp [RowKit.intOf]; omega
    · have hltz : ¬ (i : Int) < (l.length : Int) := by omega
      rw [List.take_of_length_le (by omega)] at hI
      go_wp2
      go_ret2
      exact ⟨_, _, rfl, hI.out⟩
def ReadOut (o : List LectD × List ProbD) (w : World) (e : Ending) (w' : World) : Prop :=
  ∃ v1 v2, e = .returned (.tuple #[v1, v2]) ∧ LectRow w' w.heap.size (fun k => w.heap.size ≤ k ∧ k < w'.heap.size) v1 o.1 ∧ ProbsRow w' w.heap.size v2 o.2 ∧ Below w.heap.size w w'
structure KG (w0 : World) (d s b m n : Int) (w : World) : Prop where
  g : Box4 w w0.heap.size d s b m
  n : w.cell? ⟨w0.heap.size + 1, 0, none⟩ = some (.int .i64 n)
  z : w0.heap.size + 1 < w.heap.size
  b : Below w0.heap.size w0 w
theorem KG.next {w0 w w' : World} {d s b m n : Int} {C : Nat} (h : KG w0 d s b m n w) (k : Below C w w') (hC : w0.heap.size + 1 < C) : KG w0 d s b m n w' :=
  ⟨h.g.next k (by omega), (k.cell (p := ⟨w0.heap.size + 1, 0, none⟩) hC).trans h.n, Nat.lt_of_lt_of_le h.z k.size, h.b.trans (k.mono (by omega))⟩
theorem KG.first (w : World) (d s b m n : Int) (T : TypeId) (o : Obj) (ho : o = .cells #[.int .i64 n] 3) : KG w d s b m n ((w.alloc (.cells #[.int .i64 d, .int .i64 s, .int .i64 b, .int .i64 m] T)).alloc o) := by
  subst ho
  have h1 := Box4.new w d s b m T
  have hb1 := (Below.refl w.heap.size w).alloc (Nat.le_refl _) (.cells #[.int .i64 d, .int .i64 s, .int .i64 b, .int .i64 m] T)
  have hs : (w.alloc (.cells #[.int .i64 d, .int .i64 s, .int .i64 b, .int .i64 m] T)).heap.size = w.heap.size + 1 := by simp
  generalize w.alloc (.cells #[.int .i64 d, .int .i64 s, .int .i64 b, .int .i64 m] T) = w1 at h1 hb1 hs ⊢
  have hb3 := (Below.refl w1.heap.size w1).alloc (Nat.le_refl _) (.cells #[.int .i64 n] 3)
  have e3 := heap_alloc_new w1 (.cells #[.int .i64 n] 3)
  rw [hs] at e3
  refine ⟨h1.next hb3 (by omega), by rw [Lib.cell_of_heap e3]; rfl, by simp [hs], hb1.trans (hb3.mono (by omega))⟩
theorem TimeRow.low' {w : World} {e z n B B' : Nat} {v : Value} {xs : List Value} (h : w.ownsRow B e z v n xs) (hB : B' ≤ B) : w.ownsRow B' e z v n xs := by
  obtain ⟨h1, h2⟩ := h
  refine ⟨h1, ?_⟩
  rcases h2 with h2 | ⟨g, cap, cur, hv, hg, r⟩
  · exact .inl h2
  · exact .inr ⟨g, cap, cur, hv, Nat.le_trans hB hg, r⟩
theorem prob_new (w : World) (e : Int) : ProbsRow (w.alloc (.cells #[.int .i64 0, .int .i64 0, .int .i64 0, .int .i64 e] 79)) w.heap.size (.slice (some ⟨w.heap.size, 0, none⟩) 1 1) [(0, 0, e)] := by
  exact ⟨rfl, .inr ⟨w.heap.size, 1, _, rfl, Nat.le_refl _, heap_alloc_new w _, Nat.le_refl 1, by unfold maxLen; omega, rfl, rfl⟩⟩
set_option maxHeartbeats 16000000 in
set_option maxRecDepth 100000 in
theorem read9_any (d s b m n : Int) (A : Option Addr) (l : List RecD) (c : Nat) (w : World) (h : RecsIn w (fun k => k < w.heap.size) A l) (hl : l.length ≤ 1073741824)
    (hsz : ∀ x ∈ l, ∀ f ∈ x.2, f.1.length < 4294967281) (hE : Env7 w) :
    Calls Tryz.prog 16 #[.slice A l.length c, .agg #[.int .i64 d, .int .i64 s, .int .i64 b, .int .i64 m], .int .i64 n] w (ReadOut (readM d s b m n l) w) := by
  unfold ReadOut readM
  have hk := KG.first w d s b m n 24 _ rfl
  have hN0 : Box1 ((w.alloc (.cells #[.int .i64 d, .int .i64 s, .int .i64 b, .int .i64 m] 24)).alloc (.cells #[.int .i64 n] 3)) (w.heap.size + 1) 3 (.int .i64 n) := by
    have h := Box1.new (w.alloc (.cells #[.int .i64 d, .int .i64 s, .int .i64 b, .int .i64 m] 24)) 3 (.int .i64 n)
    simpa using h
  have HN0 := hid hN0
  clear hN0
  obtain ⟨g0, g1, g2, g3, _⟩ := hk.g
  have gn := hk.n
  have cF := fun w => rframe_any d s b m n w
  unfold Says at cF
  have HK := hid hk
  have HH := hid h
  have HE := hid hE
  have HSZ := hid hsz
  clear hk h hE hsz
  cases hf : frameB d s b m n with
  | false =>
    simp only [hf] at cF ⊢
    have CF := hid cF
    clear cF hf
    go_enter Tryz.func16, Tryz.ntmps16
    go_wp2_with fail
    refine (CF.out _).mono ?_
    rintro e w1 ⟨rfl, hb⟩
    have HB := hid hb
    clear hb
    go_wp2
    go_ret2
    have hz := HB.out.size
    simp at hz
    refine ⟨_, _, rfl, ⟨[], rfl, World.ownsRow_nil _ _ _ _, fun p hp => by simp at hp⟩, TimeRow.low' (prob_new w1 1) (by omega), ?_⟩
    exact (HK.out.b.trans (HB.out.mono (by simp; omega))).trans ((Below.refl _ w1).alloc (by omega) _)
  | true =>
    simp only [hf, if_true] at cF ⊢
    have CF := hid cF
    clear cF hf
    go_enter Tryz.func16, Tryz.ntmps16
    go_wp2_with fail
    refine (CF.out _).mono ?_
    rintro e w1 ⟨rfl, hb⟩
    have hk1 := HK.out.next hb (by simp)
    have HK1 := hid hk1
    have hz1 := HK1.out.z
    have HNB := hid (HN0.out.next hb)
    clear hb hk1
    obtain ⟨g0', g1', g2', g3', _⟩ := HK1.out.g
    go_wp2_with fail
    refine (distinct_any w1).mono ?_
    rintro e w2 ⟨KB, AB, MB, M, rfl, hD, hM, hM4, k1, k2, k3, hb2⟩
    have hgl := HK1.out.g.lt
    have hnb := HNB.out
    have hrec : RecsIn w2 (fun k => k < M) A l := (((HH.out.below HK1.out.b).kept (fun k hk => hb2.block k (by omega))).mono (fun k hk => by have : w.heap.size ≤ w1.heap.size := HK1.out.b.size; omega))
    have cE := entries_any d s b m n A l c M w.heap.size (w.heap.size + 1) KB AB MB w2 hM.lt hrec hl HSZ.out
      (fun W hW => HE.out.below (HK1.out.b.trans (hb2.mono (by omega) |>.trans (hW.mono (by omega)))) (Nat.le_refl _))
      ⟨HK1.out.g.next hb2 hgl, hnb.next hb2, hD, by omega, by omega, k1, k2, k3⟩ hM
    unfold EntsOut at cE
    have CE := hid cE
    have HB2 := hid hb2
    have HM4 := hid hM4
    have HML := hid hM.lt
    clear cE hrec hM hD hM4 k1 k2 k3 hb2 hnb hgl g0' g1' g2' g3'
    go_wp2_with fail
    refine CE.out.mono ?_
    rintro e w3 ⟨v1, v2, rfl, hi⟩
    have HI := hid hi
    clear hi
    go_wp2
    go_ret2
    obtain ⟨⟨Lr, hL, ho, hr⟩, hp, _, hb⟩ := HI.out
    have hw12 := HB2.out.size
    have hw1 := HK1.out.b.size
    have hn : (recsM d s b m n l).1.length = Lr.length := by rw [← hL, List.length_map]
    refine ⟨v1, v2, rfl, ⟨Lr, hL, ?_, fun p hp' => (hr p hp').mono (fun k hk => ⟨by omega, hk.2.1⟩)⟩, TimeRow.low' hp (by omega), ?_⟩
    · rw [hn]
      exact TimeRow.low' ho (by omega)
    · have h1 := HM4.out
      exact HK1.out.b.trans ((HB2.out.mono hw1).trans ((HI.out.below HML.out).mono (by omega)))
end Go.Proofs.YtnpfmoalgphkcaaGreatDoor.S9
