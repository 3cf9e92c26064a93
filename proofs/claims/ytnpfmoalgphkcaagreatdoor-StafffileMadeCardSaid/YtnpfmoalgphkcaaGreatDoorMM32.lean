/-
  The walk of StafffileMade. Conditions: the numbers lie in memory as a slice of ints; the variables hold what their text lays.
-/
import Derived.Test.YtnpfmoalgphkcaaGreatDoorMM01
import Derived.Test.YtnpfmoalgphkcaaGreatDoorMM02
import Derived.Test.YtnpfmoalgphkcaaGreatDoorMM03
import Derived.Test.YtnpfmoalgphkcaaGreatDoorMM04
import Derived.Test.YtnpfmoalgphkcaaGreatDoorMM05
import Derived.Test.YtnpfmoalgphkcaaGreatDoorMM06
import Derived.Test.YtnpfmoalgphkcaaGreatDoorMM07
import Derived.Test.YtnpfmoalgphkcaaGreatDoorMM08
import Derived.Test.YtnpfmoalgphkcaaGreatDoorMM09
import Derived.Test.YtnpfmoalgphkcaaGreatDoorMM10
import Derived.Test.YtnpfmoalgphkcaaGreatDoorMM11
import Derived.Test.YtnpfmoalgphkcaaGreatDoorMM12
import Derived.Test.YtnpfmoalgphkcaaGreatDoorMM13
import Derived.Test.YtnpfmoalgphkcaaGreatDoorMM14
import Derived.Test.YtnpfmoalgphkcaaGreatDoorMM15
import Derived.Test.YtnpfmoalgphkcaaGreatDoorMM16
import Derived.Test.YtnpfmoalgphkcaaGreatDoorMM17
import Derived.Test.YtnpfmoalgphkcaaGreatDoorMM18
import Derived.Test.YtnpfmoalgphkcaaGreatDoorMM19
import Derived.Test.YtnpfmoalgphkcaaGreatDoorMM20
import Derived.Test.YtnpfmoalgphkcaaGreatDoorMM21
import Derived.Test.YtnpfmoalgphkcaaGreatDoorMM22
import Derived.Test.YtnpfmoalgphkcaaGreatDoorMM23
import Derived.Test.YtnpfmoalgphkcaaGreatDoorMM24
import Derived.Test.YtnpfmoalgphkcaaGreatDoorMM25
import Derived.Test.YtnpfmoalgphkcaaGreatDoorMM26
import Derived.Test.YtnpfmoalgphkcaaGreatDoorMM27
import Derived.Test.YtnpfmoalgphkcaaGreatDoorMM28
import Derived.Test.YtnpfmoalgphkcaaGreatDoorMM29
import Derived.Test.YtnpfmoalgphkcaaGreatDoorMM30
import Derived.Test.YtnpfmoalgphkcaaGreatDoorMM31
import Derived.Test.YtnpfmoalgphkcaaGreatDoorProg
import Derived.WalkKit
import Derived.WalkSpells
import Derived.WalkLawsBesides
import Derived.Lib.Hide
import Derived.Deep.QuietTactic
import Derived.BigQuiet
import Derived.Laws.Rows
import Derived.OwnWalk
import Derived.Lib.BufferWrite
import Derived.Lib.UnsafeStr
import Derived.Laws.IdiomStrings
import Derived.Laws.BytesArg
import Derived.Laws.BytesString
import Derived.Laws.OwnMore
import Derived.Lib.IndexLaws
import Derived.Lib.ItoaNum
import Derived.Lib.Atoi
import Derived.Laws.BitsAllLaws
import Derived.Laws.BitsLemmas
import Derived.Deep.MidRow
import Derived.Shelf.Strings.Builder1
import Derived.Shelf.Strings.Builder2
import Derived.Shelf.Strings.OnBuilder
import Derived.Shelf.Strings.BuilderF
import Derived.Shelf.Strings.BuilderK
import Derived.Shelf.Strings.Builder2Cap
import Derived.Shelf.Strconv.Atoi
import Derived.Shelf.Strconv.Itoa0
import Derived.Shelf.Strconv.Itoa1
import Derived.Shelf.LaysM
import Derived.Shelf.Strconv.Itoa2
import Derived.Shelf.Strconv.Itoa3
import Derived.Shelf.Strconv.AtoiErrFast
import Derived.Shelf.Strconv.ParseIntEmpty
import Derived.Shelf.Strconv.AtoiFail
import Derived.Shelf.Strconv.Clone
import Derived.Shelf.Strconv.SyntaxError
import Derived.Shelf.LaysC
import Derived.Shelf.Strconv.ToError
import Derived.Shelf.Strconv.AtoiErr
import Derived.Shelf.Strings.Search1
import Derived.Shelf.Strings.Search2
import Derived.Shelf.Strings.Search3
import Derived.Shelf.Strings.Cut
import Derived.Shelf.Strings.Shaped
import Derived.Shelf.Strings.Prefix
import Derived.Shelf.Unicode.DecodeSlow
import Derived.Shelf.Strings.BuilderCap
import Derived.Lib.AtoiErrMem
import Derived.Handy
import Derived.RangeFuncNested
import Derived.RangeFuncBound
import Derived.RangeFuncCalls
import Derived.RangeFuncLeaves
import Derived.Shelf.Abstract
import Derived.Shelf.RegionOpen
import Derived.OwnWalkIn
import Derived.Lib.Bytealg
import Derived.Lib.SlTrimSet
import Derived.Shelf.Strings.SlTrimAscii
import Derived.Laws.ResultCell
import Derived.RegionTactic
import Derived.Lib.Repeat
import Derived.Deep.RegionHeld3
import Derived.Lib.SlicesS
import Derived.TacticsInMore
import Derived.LoopNIn
import Derived.LoopIn
import Derived.Deep.DeepCutAuto
import Derived.Lib.Join
import Derived.Laws.Concat
import Derived.Maps.OwnSet
import Derived.Maps.Range
import Derived.Sort.EncStr
import Derived.Deep.RegionLaw
import Derived.Shelf.SlGeneric
import Derived.Shelf.SlicesQ.IndexFunc
import Derived.Sort.Walk0
import Derived.Deep.AppendLies
import Derived.Maps.AppendAt
import Derived.RangeFuncBox
import Derived.IntWalk
import Derived.StillTailTactics
import Derived.Lib.AppendIntMem
import Derived.Deep.CutBlock
import Derived.Deep.RegionLawGrows
import Derived.ArgAppend
set_option linter.unusedVariables false
namespace Go.Proofs.YtnpfmoalgphkcaaGreatDoor
open Go Go.Proofs Go.RowKit Go.Lib
structure QK (w0 : World) (GB TB M : Nat) (Al Af : Option Addr) (ls : List LectD) (rows : List (List Str)) (d s b m K Y T U : Int) (w : World) : Prop where
  bw : Below w0.heap.size w0 w
  g : Box4 w GB d s b m
  t : Box4 w TB K Y T U
  l : LectsIn w (fun k => k < M) Al ls
  f : RowsIn w (fun k => k < M) Af rows
  z : M ≤ w.heap.size
theorem QK.next {w0 w w' : World} {GB TB M : Nat} {Al Af : Option Addr} {ls : List LectD} {rows : List (List Str)} {d s b m K Y T U : Int} (h : QK w0 GB TB M Al Af ls rows d s b m K Y T U w) (k : Below w.heap.size w w') : QK w0 GB TB M Al Af ls rows d s b m K Y T U w' :=
  ⟨h.bw.trans (k.mono h.bw.size), h.g.next k h.g.lt, h.t.next k h.t.lt, h.l.kept (fun i hi => k.block i (Nat.lt_of_lt_of_le hi h.z)), h.f.kept (fun i hi => k.block i (Nat.lt_of_lt_of_le hi h.z)), Nat.le_trans h.z k.size⟩
theorem QK.cells {w0 w : World} {GB TB M : Nat} {Al Af : Option Addr} {ls : List LectD} {rows : List (List Str)} {d s b m K Y T U : Int} (h : QK w0 GB TB M Al Af ls rows d s b m K Y T U w) :
    w.cell? ⟨GB, 0, none⟩ = some (.int .i64 d) ∧ w.cell? ⟨GB, 1, none⟩ = some (.int .i64 s) ∧ w.cell? ⟨GB, 2, none⟩ = some (.int .i64 b) ∧ w.cell? ⟨GB, 3, none⟩ = some (.int .i64 m) ∧
    w.cell? ⟨TB, 0, none⟩ = some (.int .i64 K) ∧ w.cell? ⟨TB, 1, none⟩ = some (.int .i64 Y) ∧ w.cell? ⟨TB, 2, none⟩ = some (.int .i64 T) ∧ w.cell? ⟨TB, 3, none⟩ = some (.int .i64 U) := ⟨h.g.c0, h.g.c1, h.g.c2, h.g.c3, h.t.c0, h.t.c1, h.t.c2, h.t.c3⟩
theorem QK.first {w0 w w1 : World} {GB : Nat} {Al Af : Option Addr} {ls : List LectD} {rows : List (List Str)} {d s b m K Y T V : Int} (hb : Below w0.heap.size w0 w) (hg : Box4 w GB d s b m) (hl : LectsIn w (fun k => k < w.heap.size) Al ls) (hf : RowsIn w (fun k => k < w.heap.size) Af rows)
    (hw : w1 = w.alloc (.cells #[.int .i64 K, .int .i64 Y, .int .i64 T, .int .i64 V] 26)) : QK w0 GB w.heap.size w.heap.size Al Af ls rows d s b m K Y T V w1 := by
  have h4 := Cells4.new w K Y T V 26
  rw [← hw] at h4
  have hk : Below w.heap.size w w1 := by rw [hw]; exact (Below.refl _ w).alloc (Nat.le_refl _) _
  exact ⟨hb.trans (hk.mono hb.size), hg.next hk hg.lt, h4.box, hl.kept (fun i hi => hk.block i hi), hf.kept (fun i hi => hk.block i hi), hk.size⟩
theorem two_new (w : World) (x y : Value) (t : TypeId) : ∀ j u, [x, y][j]? = some u → (w.alloc (.cells #[x, y] t)).cell? ((⟨w.heap.size, 0, none⟩ : Addr).add j) = some u := by
  intro j u hj
  have e := heap_alloc_new w (.cells #[x, y] t)
  match j, hj with
  | 0, hj => simp at hj; subst hj; rw [Addr.add_lit, Lib.cell_of_heap e]; rfl
  | 1, hj => simp at hj; subst hj; rw [Addr.add_lit, Lib.cell_of_heap e]; rfl
  | j + 2, hj => simp at hj
theorem two_new2 (w : World) (l : List Value) (x y : Value) (t : TypeId) : ∀ j u, [x, y][j]? = some u → ((w.alloc (.cells l.toArray 9)).alloc (.cells #[x, y] t)).cell? ((⟨w.heap.size + 1, 0, none⟩ : Addr).add j) = some u := by
  have h := two_new (w.alloc (.cells l.toArray 9)) x y t
  rwa [show (w.alloc (.cells l.toArray 9)).heap.size = w.heap.size + 1 by simp] at h
theorem QK.pack {w0 wQ : World} {GB TB M : Nat} {Al Af : Option Addr} {ls : List LectD} {rows : List (List Str)} {d s b m K Y T : Int} {n cl cf : Nat} (hq : QK w0 GB TB M Al Af ls rows d s b m K Y T (n : Int) wQ) (hls : ls.length ≤ 1000) (hT : T ≤ 9223372036854775807)
    (hrn : rows.length ≤ 1000) (hrs : ∀ r ∈ rows, r.length ≤ 2 ∧ ∀ x ∈ r, x.length ≤ 2000)
    (HVL : Hid (∀ (W : World) (Al : Option Addr) (lx : List LectD) (cl : Nat) (K Y T : Int), LectsIn W (fun k => k < W.heap.size) Al lx → lx.length ≤ 1000 → T ≤ 9223372036854775807 → Below w0.heap.size w0 W → Calls Tryz.prog 3 #[.slice Al lx.length cl, .agg #[.int .i64 d, .int .i64 s, .int .i64 b, .int .i64 m], .agg #[.int .i64 K, .int .i64 Y, .int .i64 T, .int .i64 (n : Int)]] W fun e w' => e = .returned (.bool true) ∧ Below W.heap.size W w'))
    (HPL : Hid (∀ (W : World) (Af : Option Addr) (rows : List (List Str)) (cf M : Nat), M ≤ W.heap.size → RowsIn W (fun k => k < M) Af rows → rows.length ≤ 1000 → (∀ r ∈ rows, r.length ≤ 2 ∧ ∀ x ∈ r, x.length ≤ 2000) → Calls Tryz.prog 29 #[.slice Af rows.length cf] W fun e w' =>
        (∃ (A7 : Option Addr) (l7 : List RecD) (c7 : Nat), e = .returned (.slice A7 l7.length c7) ∧ (l7.length ≤ 1000 ∧ ∀ x ∈ l7, ∀ f ∈ x.2, f.1.length ≤ 2097152) ∧ RecsIn w' (fun k => k < w'.heap.size) A7 l7) ∧ Below W.heap.size W w'))
    (HRD : Hid (∀ (W : World) (A7 : Option Addr) (l7 : List RecD) (c7 : Nat), RecsIn W (fun k => k < W.heap.size) A7 l7 → (l7.length ≤ 1000 ∧ ∀ x ∈ l7, ∀ f ∈ x.2, f.1.length ≤ 2097152) → Below w0.heap.size w0 W → Calls Tryz.prog 4 #[.slice A7 l7.length c7, .agg #[.int .i64 d, .int .i64 s, .int .i64 b, .int .i64 m], .int .i64 (n : Int)] W fun e w' => e = .returned (.bool true) ∧ Below W.heap.size W w')) :
    ∃ Q : World → Prop, Q wQ ∧ (∀ w, Q w → Q w.drew) ∧
      (∀ w, Q w → w.cell? ⟨GB, 0, none⟩ = some (.int .i64 d) ∧ w.cell? ⟨GB, 1, none⟩ = some (.int .i64 s) ∧ w.cell? ⟨GB, 2, none⟩ = some (.int .i64 b) ∧ w.cell? ⟨GB, 3, none⟩ = some (.int .i64 m) ∧ w.cell? ⟨TB, 0, none⟩ = some (.int .i64 K) ∧ w.cell? ⟨TB, 1, none⟩ = some (.int .i64 Y) ∧ w.cell? ⟨TB, 2, none⟩ = some (.int .i64 T) ∧ w.cell? ⟨TB, 3, none⟩ = some (.int .i64 (n : Int))) ∧
      (∀ w, Q w → Calls Tryz.prog 3 #[.slice Al ls.length cl, .agg #[.int .i64 d, .int .i64 s, .int .i64 b, .int .i64 m], .agg #[.int .i64 K, .int .i64 Y, .int .i64 T, .int .i64 (n : Int)]] w fun e w' => e = .returned (.bool true) ∧ Q w') ∧
      (∀ w, Q w → Calls Tryz.prog 29 #[.slice Af rows.length cf] w fun e w' => ∃ (A7 : Option Addr) (n7 c7 : Nat), e = .returned (.slice A7 n7 c7) ∧ Q w' ∧ Hid (Calls Tryz.prog 4 #[.slice A7 n7 c7, .agg #[.int .i64 d, .int .i64 s, .int .i64 b, .int .i64 m], .int .i64 (n : Int)] w' fun e w' => e = .returned (.bool true) ∧ Q w')) ∧
      (∀ w, Q w → Below w0.heap.size w0 w) := by
  refine ⟨fun w => QK w0 GB TB M Al Af ls rows d s b m K Y T (n : Int) w, hq, fun w h => h.next (Below.refl _ w).drew, fun w h => h.cells, fun w h => ?_, fun w h => ?_, fun w h => h.bw⟩
  · exact (HVL.out w Al ls cl K Y T (h.l.mono (fun k hk => Nat.lt_of_lt_of_le hk h.z)) hls hT h.bw).mono fun e w' ⟨he, hb⟩ => ⟨he, h.next hb⟩
  · refine (HPL.out w Af rows cf M h.z h.f hrn hrs).mono ?_
    rintro e w' ⟨⟨A7, l7, c7, rfl, hl7, hr7⟩, hb⟩
    have h' := h.next hb
    exact ⟨A7, l7.length, c7, rfl, h', hid ((HRD.out w' A7 l7 c7 hr7 hl7 h'.bw).mono fun e w2 ⟨he, hb2⟩ => ⟨he, h'.next hb2⟩)⟩
set_option maxHeartbeats 64000000 in
set_option maxRecDepth 100000 in
theorem made9_any (A : Option Addr) (L : List Int) (c PB po pc : Nat) (hlen : L.length ≤ 9223372036854775807) (w : World) (hE : Env7 w) (hRE : REnv7 w) (h : IntsIn w w.heap.size A L)
    (hp : PeopleAt w PB po pc) (hPB : PB < w.heap.size) :
    Calls Tryz.prog 5 #[.slice A L.length c] w fun e w' => e = .returned (.bool true) ∧ Below w.heap.size w w' := by
  have cL := light_any A L.length c w
  have hGz : 0 < w.heap.size := World.block_lt_of_cell? w _ hp.c0
  have cK := hid (fun w' (hb : Below w.heap.size w w') => S9.awake9_any w' (hE.below hb (Nat.le_refl _)))
  have cK' := cK.out
  unfold Says at cK'
  have HAW := cK
  have cK := hid cK'
  have HE := hid (fun w' (hb : Below w.heap.size w w') => hE.below hb (Nat.le_refl _))
  have HRE := hid (fun w' (hb : Below w.heap.size w w') => hRE.below hb (Nat.le_refl _))
  have HPP := hid (fun w' (hb : Below w.heap.size w w') => hp.kept (w' := w') (hb.block _ hGz) (hb.block _ hPB))
  clear cK' hp
  by_cases hl : L.length ≤ 400
  · rw [decide_eq_true hl] at cL
    have cR := hid (fun w h => roll_any A L c hl w h)
    have HI := hid h
    clear hE hRE h
    go_enter Tryz.func5, Tryz.ntmps5
    go_wp2_with fail
    refine cL.mono ?_
    rintro e w' ⟨rfl, rfl⟩
    go_wp2_with fail
    refine (cR.out _ HI.out).mono ?_
    rintro e w1 ⟨rfl, hd1, hb1⟩
    have hgl := hd1.lt
    have HB : Hid (∀ W k, DE w1 w.heap.size c A L k W → Below w.heap.size w W) := hid (fun W k he => hb1.trans (he.toBelow (Nat.le_of_lt hgl) (Nat.le_refl _)))
    have cG := hid (grid_any w.heap.size c 0 A L w1 hd1)
    clear hd1 hb1 cL cR HI
    go_wp2_with fail
    refine cG.out.mono ?_
    rintro e w2 ⟨d, s, b, m, k2, rfl, hmg, he2⟩
    have HN := hid (fun (W : World) k n hn (h : DiceAt W w.heap.size A L c k) => next_at w.heap.size c k A L n hn W h)
    have cN := HN.out _ _ 8 (by omega) he2.d
    obtain ⟨r, hr⟩ : ∃ r, rollV L k2 8 = r := ⟨_, rfl⟩
    have hrr := rollV_range L k2 8 (by omega)
    rw [hr] at cN hrr
    generalize rollK L k2 = k3 at cN
    obtain ⟨q, rfl⟩ : ∃ q : Nat, r = (q : Int) := ⟨r.toNat, by omega⟩
    obtain ⟨n, hn⟩ : ∃ n, q + 1 = n := ⟨_, rfl⟩
    have hn1 : 1 ≤ n := by omega
    have hn2 : n ≤ 8 := by omega
    have hni : 1 + (q : Int) = (n : Int) := by omega
    have HE2 := hid he2
    have CN := hid cN
    have HMG := hid hmg
    have g1 : 1 ≤ d ∧ d ≤ 5 := hmg.1
    have g2 : 2 ≤ s ∧ s ≤ 8 := hmg.2.1
    clear cN he2 hr hrr hn cG hmg HN
    go_wp2_with fail
    refine CN.out.mono ?_
    rintro e w3 ⟨rfl, hd3, hR3⟩
    have he3 := HE2.out.next hd3 hR3
    have he4 := he3.alloc (.cells #[.int .i64 d, .int .i64 s, .int .i64 b, .int .i64 m] 24)
    have hc4 := Cells4.new w3 d s b m 24
    have hg3 := he3.p.size
    have HE4 := hid he4
    have HC4 := hid hc4
    clear he3 he4 hc4 hd3 hR3 CN HE2
    obtain ⟨g0, g1', g2', g3', _⟩ := HC4.out.box
    have hne : w3.heap.size ≠ w.heap.size := by omega
    have hb4 := HB.out _ _ HE4.out
    have cS := hid (dstaff_any w.heap.size c _ PB po pc A L d s b m n hn1 (by omega) (by omega) (by omega) (by omega) (by omega) _ HE4.out.d (HPP.out _ hb4) hGz hPB)
    clear hb4
    go_wp2_with fail
    refine cS.out.mono ?_
    rintro e w5 ⟨ls, v, k5, rfl, hok, hrow, he5⟩
    have hb5 := HB.out _ _ (HE4.out.trans he5)
    have hc5 := HC4.out.played he5.p hne
    have hsm := row_small (b := b) (m := m) hok
    obtain ⟨LL, hLL, hown5, hrl5⟩ := hrow
    have hl5 : LL.length = ls.length := by rw [← hLL, List.length_map]
    obtain ⟨A5, c5, rfl, _, _, hin5⟩ := LectRow.lectsIn ⟨LL, hLL, hown5, hrl5⟩
    have hown5' : w5.ownsRow (w3.alloc (.cells #[.int .i64 d, .int .i64 s, .int .i64 b, .int .i64 m] 24)).heap.size 34 2 (.slice A5 ls.length c5) LL.length (lectVals LL) := by rw [hl5]; exact hown5
    have hin5' : LectsIn w5 (fun k => w.heap.size < k ∧ k < w5.heap.size) A5 ls := hin5.mono (fun k hk => by have := HE4.out.d.lt; rcases hk with h | h <;> exact ⟨by omega, h.2⟩)
    have hw45 : w.heap.size < w5.heap.size := by have := HE4.out.d.lt; have := he5.p.size; omega
    have cW := rlwriteF_any d s b m n A5 ls c5 w5 (hin5'.mono (fun k hk => hk.2)) (HRE.out _ hb5)
    obtain ⟨hval, _⟩ := staff_made HMG.out hn1 (by omega) hok
    have hwr : writeL d s b m n ls = (ls.map (rowL d s b m n), 0) := by unfold writeL; rw [if_neg (by simp [hval])]
    rw [hwr] at cW
    unfold WriteOutF at cW
    have CW := hid cW
    have HSM := hid hsm
    have hl3 := hok.len
    have HD5 := hid he5.d
    have HB5 := hid (fun W k (he : DE w5 w.heap.size c A L k W) => hb5.trans (he.toBelow (Nat.le_of_lt hw45) (Nat.le_refl _)))
    obtain ⟨iS, hiS, hzS, hsS, hbS⟩ := info_parts infoStrs7
    have HGB := hid (fun W k (he : DE w5 w.heap.size c A L k W) => (hc5.played he.p hne).box)
    have HLE := hid (fun W k (he : DE w5 w.heap.size c A L k W) => hin5'.kept (w' := W) (fun b hb => he.p.block b hb.2 (by omega)))
    have HG4 := hid (Nat.le_of_lt HE4.out.d.lt)
    have HODD : Hid (∀ (W : World) (k : Nat), DE w5 w.heap.size c A L k W → Calls Tryz.prog 27 #[.pointer (some ⟨w.heap.size, 0, none⟩), .slice A5 ls.length c5] W (OddP w.heap.size c A L W)) := hid (fun W k he => by
      have hz := he.p.size
      refine oddStaff_any w.heap.size c k (w3.alloc (.cells #[.int .i64 d, .int .i64 s, .int .i64 b, .int .i64 m] 24)).heap.size A L LL _ W he.d (he.p.row hown5' (fun k hk => ?_)) HE4.out.d.lt (fun p hp => ((hrl5 p hp).kept (fun b hb => he.p.block b hb.2 ?_)).mono (fun b hb => ⟨?_, ?_⟩)) (by omega)
      · have := World.ownsRow.lt hown5' k hk
        have := HE4.out.d.lt
        omega
      · have := HE4.out.d.lt
        omega
      · have := HE4.out.d.lt
        omega
      · omega)
    have HONE : Hid (∀ (W : World) (q : Int), 1 ≤ q → q ≤ 4294967296 → (∃ k, DiceAt W w.heap.size A L c k) → Calls Tryz.prog 25 #[.pointer (some ⟨w.heap.size, 0, none⟩), .int .i64 q] W fun e w' => ∃ r : Bool, e = .returned (.bool r) ∧ ∃ k', DE W w.heap.size c A L k' w') := hid (fun W q hq hq2 ⟨k, hd⟩ => by
      refine (one_any w.heap.size c k A L q hq2 hq W hd).mono ?_
      rintro e w' ⟨⟨r, rfl⟩, ⟨k', hd'⟩, hR⟩
      exact ⟨r, rfl, k', (DE.first hd).next hd' hR⟩)
    have HNX : Hid (∀ (W : World) (q : Int), 1 ≤ q → q ≤ 4294967296 → (∃ k, DiceAt W w.heap.size A L c k) → Calls Tryz.prog 23 #[.pointer (some ⟨w.heap.size, 0, none⟩), .int .i64 q] W fun e w' => ∃ r : Nat, e = .returned (.int .i64 (r : Int)) ∧ (r : Int) < q ∧ ∃ k', DE W w.heap.size c A L k' w') := hid (fun W q hq hq2 ⟨k, hd⟩ => by
      refine (next_any w.heap.size c k A L q hq2 W hd).mono ?_
      rintro e w' ⟨⟨r, rfl, hr⟩, ⟨k', hd'⟩, hR⟩
      obtain ⟨hr0, hr1⟩ := hr hq
      obtain ⟨q0, rfl⟩ : ∃ q : Nat, r = (q : Int) := ⟨r.toNat, by omega⟩
      exact ⟨q0, rfl, hr1, k', (DE.first hd).next hd' hR⟩)
    have HTM : Hid (∀ (W : World), (∃ k, DiceAt W w.heap.size A L c k) → Calls Tryz.prog 28 #[.pointer (some ⟨w.heap.size, 0, none⟩), .agg #[.int .i64 d, .int .i64 s, .int .i64 b, .int .i64 m], .int .i64 (n : Int)] W fun e w' => ∃ K Y T U k', e = .returned (.agg #[.int .i64 K, .int .i64 Y, .int .i64 T, .int .i64 U]) ∧ T ≤ 9223372036854775807 ∧ DE W w.heap.size c A L k' w') := hid (fun W ⟨k, hd⟩ => by
      refine (time_any w.heap.size c k A L d s b m n hn1 (by omega) (by omega) (by omega) (by omega) (by omega) W hd).mono ?_
      rintro e w' ⟨K, Y, T, U, k', rfl, hmt, he⟩
      exact ⟨K, Y, T, U, k', rfl, by have := hmt.2.2.1; omega, he⟩)
    have HSP : Hid (∀ (W : World) (S : ByteArray), S.size ≤ 1000 → (∃ k, DiceAt W w.heap.size A L c k) → Calls Tryz.prog 26 #[.pointer (some ⟨w.heap.size, 0, none⟩), .string S, .string ⟨#[48, 49, 50, 57, 59, 58, 47, 45, 46, 32, 77, 111, 97, 98]⟩] W fun e w' => ∃ X : List UInt8, e = .returned (.string ⟨X.toArray⟩) ∧ X.length ≤ 2000 ∧ ∃ k', DE W w.heap.size c A L k' w') := hid (fun W S hS ⟨k, hd⟩ => by
      refine (spoil_any w.heap.size c k A L S ⟨#[48, 49, 50, 57, 59, 58, 47, 45, 46, 32, 77, 111, 97, 98]⟩ (by omega) (by decide) (by decide) W hd).mono ?_
      rintro e w' ⟨⟨X, rfl, hX⟩, ⟨k', hd'⟩, hP⟩
      exact ⟨X, rfl, by omega, k', hd', hP⟩)
    have HVL : Hid (∀ (W : World) (Al : Option Addr) (lx : List LectD) (cl : Nat) (K Y T : Int), LectsIn W (fun k => k < W.heap.size) Al lx → lx.length ≤ 1000 → T ≤ 9223372036854775807 → Below w.heap.size w W → Calls Tryz.prog 3 #[.slice Al lx.length cl, .agg #[.int .i64 d, .int .i64 s, .int .i64 b, .int .i64 m], .agg #[.int .i64 K, .int .i64 Y, .int .i64 T, .int .i64 (n : Int)]] W fun e w' => e = .returned (.bool true) ∧ Below W.heap.size W w') := hid (fun W Al lx cl K Y T hl hn ht hb =>
      lvalidLaw_any d s b m (K, Y, T, (n : Int)) ht Al lx cl W hl (by omega) (HE.out _ hb) (HRE.out _ hb) (fun w' hb' => HAW.out _ (hb.trans (hb'.mono hb.size))))
    have HPL : Hid (∀ (W : World) (Af : Option Addr) (rows : List (List Str)) (cf M : Nat), M ≤ W.heap.size → RowsIn W (fun k => k < M) Af rows → rows.length ≤ 1000 → (∀ r ∈ rows, r.length ≤ 2 ∧ ∀ x ∈ r, x.length ≤ 2000) → Calls Tryz.prog 29 #[.slice Af rows.length cf] W fun e w' =>
        (∃ (A7 : Option Addr) (l7 : List RecD) (c7 : Nat), e = .returned (.slice A7 l7.length c7) ∧ (l7.length ≤ 1000 ∧ ∀ x ∈ l7, ∀ f ∈ x.2, f.1.length ≤ 2097152) ∧ RecsIn w' (fun k => k < w'.heap.size) A7 l7) ∧ Below W.heap.size W w') := hid (fun W Af rows cf M hM hf hn hs => by
      refine (plain_any Af rows cf M W hM hf (by omega) (fun r hr => by have := (hs r hr).1; omega) (fun r hr x hx => by have := (hs r hr).2 x hx; omega)).mono ?_
      rintro e w' ⟨⟨v, rfl, hrr⟩, hb⟩
      obtain ⟨A7, c7, rfl, _, _, hri⟩ := hrr.recsIn
      exact ⟨⟨A7, plainM rows, c7, rfl, ⟨by rw [plainM_len]; exact hn, fun x hx f hf => by obtain ⟨r, hr, hfr⟩ := plainM_mem hx f hf; have := (hs r hr).2 f.1 hfr; omega⟩, hri.mono (fun k hk => hk.2)⟩, hb⟩)
    have HRD : Hid (∀ (W : World) (A7 : Option Addr) (l7 : List RecD) (c7 : Nat), RecsIn W (fun k => k < W.heap.size) A7 l7 → (l7.length ≤ 1000 ∧ ∀ x ∈ l7, ∀ f ∈ x.2, f.1.length ≤ 2097152) → Below w.heap.size w W → Calls Tryz.prog 4 #[.slice A7 l7.length c7, .agg #[.int .i64 d, .int .i64 s, .int .i64 b, .int .i64 m], .int .i64 (n : Int)] W fun e w' => e = .returned (.bool true) ∧ Below W.heap.size W w') := hid (fun W A7 l7 c7 hr hs hb =>
      S9.rreadsLaw_any d s b m n A7 l7 c7 W hr (by have := hs.1; omega) hs.2 (HE.out _ hb) (HRE.out _ hb) (fun w' hb' => HAW.out _ (hb.trans (hb'.mono hb.size))))
    clear hown5' he5 hb5 hc5 hsm hLL hown5 hrl5 hl5 hin5 hin5' hw45 cW hval hwr hok HC4 HE4 HB cS g0 g1' g2' g3' hne hg3 HMG HPP
    have HB6 := hid (HGB.out _ _ (DE.first HD5.out))
    obtain ⟨g0, g1', g2', g3', _⟩ := HB6.out
    go_wp2_with fail
    refine CW.out.mono ?_
    rintro e w6 ⟨⟨v6, L6, hL6, rfl, hrf6⟩, hb6⟩
    obtain ⟨A6, c6, hv6, _, _, _⟩ := hrf6.1.rowsIn
    subst hv6
    have hn6 : L6.length = ls.length := by have := congrArg List.length hL6; rw [List.length_map, List.length_map] at this; exact this
    obtain ⟨n6, hn6'⟩ : ∃ n6, L6.length = n6 := ⟨_, rfl⟩
    have h63 : n6 ≤ 3 := by omega
    rw [hn6']
    rw [hn6'] at hrf6
    have hms : MS w5 w.heap.size c A L (.slice A6 n6 c6) L6 w6 := ⟨⟨_, (DE.first HD5.out).below hb6 HD5.out.lt⟩, hrf6, fun p hp => by
      have := HSM.out p.1 (by rw [← hL6]; exact List.mem_map_of_mem hp)
      exact ⟨this.1, fun x hx => by have := this.2 x hx; omega⟩, HD5.out.lt⟩
    have hs6 : Hid (∀ p ∈ L6, ∀ x ∈ p.1, x.length ≤ 1000) := hid (fun p hp x hx => (HSM.out p.1 (by rw [← hL6]; exact List.mem_map_of_mem hp)).2 x hx)
    have HMS := hid hms
    have HN6 := hid hn6'
    clear hrf6 hb6 hL6 hn6 hn6' hms CW HSM g0 g1' g2' g3' HB6
    by_cases h0 : 0 < n6
    · have h0z : (0 : Int) < (n6 : Int) := by omega
      obtain ⟨gf, cf, hvf, hgf5, hgf6⟩ := World.ownsRow.form HMS.out.f.1.1 (by rw [HN6.out]; exact h0)
      rw [HN6.out] at hvf
      injection hvf with e1 _ e3
      subst e1 e3
      go_wp2_with fail
      refine (HONE.out _ 2 (by omega) (by omega) HMS.out.dice).mono ?_
      rintro e w7 ⟨r7, rfl, k7, he7⟩
      have HMS7 := hid (HMS.out.played he7)
      clear he7 HMS
      cases r7 with
      | false =>
        go_wp2_with fail
        refine (HONE.out _ 4 (by omega) (by omega) HMS7.out.dice).mono ?_
        rintro e wA ⟨rA, rfl, kA, heA⟩
        have HMA := hid (HMS7.out.played heA)
        clear heA HMS7
        cases rA with
        | false =>
          have hmt := (HMA.out.toT (by rw [HN6.out]; omega)).2
          have hrl : (L6.map (·.1)).length = _ := (List.length_map _).trans HN6.out
          obtain ⟨rowsT, hrT⟩ : ∃ R, L6.map (·.1) = R := ⟨_, rfl⟩
          rw [hrT] at hmt hrl
          have HMT := hid hmt
          have HRL := hid hrl
          clear hmt hrl hrT HMA
          go_wp2_with fail
          refine (HONE.out _ 2 (by omega) (by omega) HMT.out.dice).mono ?_
          rintro e wO ⟨rO, rfl, kO, heO⟩
          have HMO := hid (HMT.out.played heO)
          clear heO HMT
          cases rO with
          | false =>
            obtain ⟨kT, hdT⟩ := HMO.out.e
            have HBT := hid (HGB.out _ _ hdT)
            obtain ⟨g0, g1', g2', g3', _⟩ := HBT.out
            clear hdT
            go_wp2_with fail
            refine (HTM.out _ HMO.out.dice).mono ?_
            rintro e w11 ⟨K, Y, T, U, kt, rfl, hT, he11⟩
            have hm11 := HMO.out.played he11
            obtain ⟨kz, hdz⟩ := hm11.e
            have hlz : LectsIn w11 (fun k => k < w11.heap.size) A5 ls := (HLE.out _ _ hdz).mono (fun k hk => by have := hdz.p.size; omega)
            obtain ⟨wQ, hwQ⟩ : ∃ W, w11.alloc (.cells #[.int .i64 K, .int .i64 Y, .int .i64 T, .int .i64 (n : Int)] 26) = W := ⟨_, rfl⟩
            obtain ⟨Q, hk', HQD, HQC, HQV, HQP, HQB⟩ := QK.pack (cl := c5) (cf := c6) (QK.first (HB5.out _ _ hdz) (HGB.out _ _ hdz) hlz (hm11.f.mono (fun k hk => hk.2)) hwQ.symm) (by omega) hT hm11.n hm11.s HVL HPL HRD
            rw [HRL.out] at HQP
            obtain ⟨NX, hNX⟩ : ∃ N, ls.length = N := ⟨_, rfl⟩
            rw [hNX] at HQV ⊢
            have HQD' := hid HQD
            have HQC' := hid HQC
            have HQV' := hid HQV
            have HQP' := hid HQP
            have HQB' := hid HQB
            have HWQ := hid hwQ
            clear HQD HQC HQV HQP HQB hlz hm11 hdz he11 hNX hwQ HTM HONE HNX HSP HVL HPL HRD HODD HLE HGB HB5 g0 g1' g2' g3' HBT HMO
            obtain ⟨TB, hTB⟩ : ∃ p, w11.heap.size = p := ⟨_, rfl⟩
            rw [hTB] at HQC'
            have HTB := hid hTB
            clear hTB
            go_upto_region 17 with fail
            (try rw [HWQ.out])
            (try rw [HTB.out])
            go_region_held3 (fun w' => w'.cell? ⟨w3.heap.size, 0, none⟩ = some (.int .i64 d) ∧ w'.cell? ⟨w3.heap.size, 1, none⟩ = some (.int .i64 s) ∧ w'.cell? ⟨w3.heap.size, 2, none⟩ = some (.int .i64 b) ∧ w'.cell? ⟨w3.heap.size, 3, none⟩ = some (.int .i64 m) ∧ w'.cell? ⟨TB, 0, none⟩ = some (.int .i64 K) ∧ w'.cell? ⟨TB, 1, none⟩ = some (.int .i64 Y) ∧ w'.cell? ⟨TB, 2, none⟩ = some (.int .i64 T) ∧ w'.cell? ⟨TB, 3, none⟩ = some (.int .i64 (n : Int)))
              (first | with_reducible exact HQC'.out _ hk' | with_reducible exact HQC'.out _ (HQD'.out _ hk'))
              (first
                | (go_at_call 3; refine (HQV'.out _ (HQD'.out _ hk')).mono ?_; rintro e w' ⟨rfl, hk'⟩)
                | (go_at_call 3; refine (HQV'.out _ hk').mono ?_; rintro e w' ⟨rfl, hk'⟩)
                | (go_at_call 29; refine (HQP'.out _ hk').mono ?_; rintro e w' ⟨A7, n7, c7, rfl, hk', HR7⟩)
                | (go_at_call 4; refine HR7.out.mono ?_; rintro e w' ⟨rfl, hk'⟩))
            all_goals
              go_wp2_with fail
              go_ret
              exact ⟨rfl, HQB'.out _ hk'⟩
          | true =>
            obtain ⟨kd, hdO⟩ := HMO.out.e
            have cO := HODD.out _ _ hdO
            have CO := hid cO
            clear cO hdO
            go_wp2_with fail
            refine CO.out.mono ?_
            rintro e w10 ⟨lx, Ax, cx, rfl, hlx, hinx, kx, hex⟩
            have HMO := hid (HMO.out.played hex)
            have HLX := hid hinx
            have HLN := hid hlx
            clear hex hinx hlx CO
            obtain ⟨kT, hdT⟩ := HMO.out.e
            have HBT := hid (HGB.out _ _ hdT)
            obtain ⟨g0, g1', g2', g3', _⟩ := HBT.out
            clear hdT
            go_wp2_with fail
            refine (HTM.out _ HMO.out.dice).mono ?_
            rintro e w11 ⟨K, Y, T, U, kt, rfl, hT, he11⟩
            have hm11 := HMO.out.played he11
            obtain ⟨kz, hdz⟩ := hm11.e
            have hlz : LectsIn w11 (fun k => k < w11.heap.size) Ax lx := (HLX.out.kept (fun b hb => he11.p.block b hb.2 (by omega))).mono (fun k hk => Nat.lt_of_lt_of_le hk.2 he11.p.size)
            obtain ⟨wQ, hwQ⟩ : ∃ W, w11.alloc (.cells #[.int .i64 K, .int .i64 Y, .int .i64 T, .int .i64 (n : Int)] 26) = W := ⟨_, rfl⟩
            obtain ⟨Q, hk', HQD, HQC, HQV, HQP, HQB⟩ := QK.pack (cl := cx) (cf := c6) (QK.first (HB5.out _ _ hdz) (HGB.out _ _ hdz) hlz (hm11.f.mono (fun k hk => hk.2)) hwQ.symm) HLN.out hT hm11.n hm11.s HVL HPL HRD
            rw [HRL.out] at HQP
            obtain ⟨NX, hNX⟩ : ∃ N, lx.length = N := ⟨_, rfl⟩
            rw [hNX] at HQV ⊢
            have HQD' := hid HQD
            have HQC' := hid HQC
            have HQV' := hid HQV
            have HQP' := hid HQP
            have HQB' := hid HQB
            have HWQ := hid hwQ
            clear HQD HQC HQV HQP HQB hlz hm11 hdz he11 hNX hwQ HTM HONE HNX HSP HVL HPL HRD HODD HLE HGB HB5 g0 g1' g2' g3' HBT HMO
            obtain ⟨TB, hTB⟩ : ∃ p, w11.heap.size = p := ⟨_, rfl⟩
            rw [hTB] at HQC'
            have HTB := hid hTB
            clear hTB
            go_upto_region 17 with fail
            (try rw [HWQ.out])
            (try rw [HTB.out])
            go_region_held3 (fun w' => w'.cell? ⟨w3.heap.size, 0, none⟩ = some (.int .i64 d) ∧ w'.cell? ⟨w3.heap.size, 1, none⟩ = some (.int .i64 s) ∧ w'.cell? ⟨w3.heap.size, 2, none⟩ = some (.int .i64 b) ∧ w'.cell? ⟨w3.heap.size, 3, none⟩ = some (.int .i64 m) ∧ w'.cell? ⟨TB, 0, none⟩ = some (.int .i64 K) ∧ w'.cell? ⟨TB, 1, none⟩ = some (.int .i64 Y) ∧ w'.cell? ⟨TB, 2, none⟩ = some (.int .i64 T) ∧ w'.cell? ⟨TB, 3, none⟩ = some (.int .i64 (n : Int)))
              (first | with_reducible exact HQC'.out _ hk' | with_reducible exact HQC'.out _ (HQD'.out _ hk'))
              (first
                | (go_at_call 3; refine (HQV'.out _ (HQD'.out _ hk')).mono ?_; rintro e w' ⟨rfl, hk'⟩)
                | (go_at_call 3; refine (HQV'.out _ hk').mono ?_; rintro e w' ⟨rfl, hk'⟩)
                | (go_at_call 29; refine (HQP'.out _ hk').mono ?_; rintro e w' ⟨A7, n7, c7, rfl, hk', HR7⟩)
                | (go_at_call 4; refine HR7.out.mono ?_; rintro e w' ⟨rfl, hk'⟩))
            all_goals
              go_wp2_with fail
              go_ret
              exact ⟨rfl, HQB'.out _ hk'⟩
        | true =>
          have hz0 : 0 < L6.length := by rw [HN6.out]; exact h0
          obtain ⟨p0, hp0⟩ : ∃ p, L6[0] = p := ⟨_, rfl⟩
          have hpm0 : p0 ∈ L6 := by rw [← hp0]; exact List.getElem_mem hz0
          obtain ⟨pl0, pa0, pc0⟩ := p0
          have hp20 := (HMA.out.s _ hpm0).1
          try dsimp only at hp20
          have hrv : rowV (pl0, pa0, pc0) = .slice pa0 2 pc0 := by unfold rowV; dsimp only; rw [hp20]
          have hc0 := World.ownsRow.cells HMA.out.f.1.1 (g := gf) rfl 0 (rowV (pl0, pa0, pc0)) (by rw [List.getElem?_map, List.getElem?_eq_getElem hz0, hp0]; rfl)
          rw [Addr.add_lit, Nat.zero_add, hrv] at hc0
          have HRV := hid hrv
          have HPM := hid hpm0
          have HN3 : Hid (L6.length + 2 ≤ maxLen) := hid (by unfold maxLen; rw [HN6.out]; omega)
          have HN4 : Hid ((L6.length + 2) * 24 ≤ 140737488355328) := hid (by rw [HN6.out]; omega)
          have HN5 : Hid (∀ o o' : Obj, w5.heap.size ≤ ((wA.alloc o).alloc o').heap.size) := hid (fun o o' => by obtain ⟨_, h0⟩ := HMA.out.e; have := h0.p.size; simp; omega)
          clear hp20 hrv hp0 hpm0 hz0
          go_wp2_with (at_builtin; go_loud (refine wpList_append_own_at _ rfl _ _ 27 rfl w5.heap.size 58 iS (.slice none 0 0) 1 24 Tryz.underlying27 hiS hzS hsS hbS rfl (by decide) (.slice (some ⟨gf, 0, none⟩) n6 c6) L6.length (L6.map rowV) rfl (World.ownsRow.alloc (World.ownsRow.alloc HMA.out.f.1.1 _) _) ⟨wA.heap.size + 1, 0, none⟩ 2 2 [.slice pa0 2 pc0, .slice (some ⟨wA.heap.size, 0, none⟩) 1 1] rfl rfl (two_new2 wA [.string ⟨#[120]⟩] _ _ _) (fun u hu => by simp at hu; rcases hu with rfl | rfl <;> rfl) HN3.out HN4.out (HN5.out _ _) ?_))
          intro v' w4 hown hgrow _ hat
          obtain ⟨Af, rowsT, cq, rfl, hmt⟩ := MS.app HMA.out (by rw [HN6.out]; omega) HPM.out rfl (by rw [HRV.out]; exact hown) (by rw [HRV.out]; exact hgrow) (by simpa using hat)
          have HMT := hid hmt
          obtain ⟨NR, hNR⟩ : ∃ N, rowsT.length = N := ⟨_, rfl⟩
          have HRL := hid hNR
          rw [hNR]
          clear hmt hown hgrow hat hNR hc0 HMA HRV HPM HN3 HN4 HN5
          go_wp2_with fail
          refine (HONE.out _ 2 (by omega) (by omega) HMT.out.dice).mono ?_
          rintro e wO ⟨rO, rfl, kO, heO⟩
          have HMO := hid (HMT.out.played heO)
          clear heO HMT
          cases rO with
          | false =>
            obtain ⟨kT, hdT⟩ := HMO.out.e
            have HBT := hid (HGB.out _ _ hdT)
            obtain ⟨g0, g1', g2', g3', _⟩ := HBT.out
            clear hdT
            go_wp2_with fail
            refine (HTM.out _ HMO.out.dice).mono ?_
            rintro e w11 ⟨K, Y, T, U, kt, rfl, hT, he11⟩
            have hm11 := HMO.out.played he11
            obtain ⟨kz, hdz⟩ := hm11.e
            have hlz : LectsIn w11 (fun k => k < w11.heap.size) A5 ls := (HLE.out _ _ hdz).mono (fun k hk => by have := hdz.p.size; omega)
            obtain ⟨wQ, hwQ⟩ : ∃ W, w11.alloc (.cells #[.int .i64 K, .int .i64 Y, .int .i64 T, .int .i64 (n : Int)] 26) = W := ⟨_, rfl⟩
            obtain ⟨Q, hk', HQD, HQC, HQV, HQP, HQB⟩ := QK.pack (cl := c5) (cf := cq) (QK.first (HB5.out _ _ hdz) (HGB.out _ _ hdz) hlz (hm11.f.mono (fun k hk => hk.2)) hwQ.symm) (by omega) hT hm11.n hm11.s HVL HPL HRD
            rw [HRL.out] at HQP
            obtain ⟨NX, hNX⟩ : ∃ N, ls.length = N := ⟨_, rfl⟩
            rw [hNX] at HQV ⊢
            have HQD' := hid HQD
            have HQC' := hid HQC
            have HQV' := hid HQV
            have HQP' := hid HQP
            have HQB' := hid HQB
            have HWQ := hid hwQ
            clear HQD HQC HQV HQP HQB hlz hm11 hdz he11 hNX hwQ HTM HONE HNX HSP HVL HPL HRD HODD HLE HGB HB5 g0 g1' g2' g3' HBT HMO
            obtain ⟨TB, hTB⟩ : ∃ p, w11.heap.size = p := ⟨_, rfl⟩
            rw [hTB] at HQC'
            have HTB := hid hTB
            clear hTB
            go_upto_region 17 with fail
            (try rw [HWQ.out])
            (try rw [HTB.out])
            go_region_held3 (fun w' => w'.cell? ⟨w3.heap.size, 0, none⟩ = some (.int .i64 d) ∧ w'.cell? ⟨w3.heap.size, 1, none⟩ = some (.int .i64 s) ∧ w'.cell? ⟨w3.heap.size, 2, none⟩ = some (.int .i64 b) ∧ w'.cell? ⟨w3.heap.size, 3, none⟩ = some (.int .i64 m) ∧ w'.cell? ⟨TB, 0, none⟩ = some (.int .i64 K) ∧ w'.cell? ⟨TB, 1, none⟩ = some (.int .i64 Y) ∧ w'.cell? ⟨TB, 2, none⟩ = some (.int .i64 T) ∧ w'.cell? ⟨TB, 3, none⟩ = some (.int .i64 (n : Int)))
              (first | with_reducible exact HQC'.out _ hk' | with_reducible exact HQC'.out _ (HQD'.out _ hk'))
              (first
                | (go_at_call 3; refine (HQV'.out _ (HQD'.out _ hk')).mono ?_; rintro e w' ⟨rfl, hk'⟩)
                | (go_at_call 3; refine (HQV'.out _ hk').mono ?_; rintro e w' ⟨rfl, hk'⟩)
                | (go_at_call 29; refine (HQP'.out _ hk').mono ?_; rintro e w' ⟨A7, n7, c7, rfl, hk', HR7⟩)
                | (go_at_call 4; refine HR7.out.mono ?_; rintro e w' ⟨rfl, hk'⟩))
            all_goals
              go_wp2_with fail
              go_ret
              exact ⟨rfl, HQB'.out _ hk'⟩
          | true =>
            obtain ⟨kd, hdO⟩ := HMO.out.e
            have cO := HODD.out _ _ hdO
            have CO := hid cO
            clear cO hdO
            go_wp2_with fail
            refine CO.out.mono ?_
            rintro e w10 ⟨lx, Ax, cx, rfl, hlx, hinx, kx, hex⟩
            have HMO := hid (HMO.out.played hex)
            have HLX := hid hinx
            have HLN := hid hlx
            clear hex hinx hlx CO
            obtain ⟨kT, hdT⟩ := HMO.out.e
            have HBT := hid (HGB.out _ _ hdT)
            obtain ⟨g0, g1', g2', g3', _⟩ := HBT.out
            clear hdT
            go_wp2_with fail
            refine (HTM.out _ HMO.out.dice).mono ?_
            rintro e w11 ⟨K, Y, T, U, kt, rfl, hT, he11⟩
            have hm11 := HMO.out.played he11
            obtain ⟨kz, hdz⟩ := hm11.e
            have hlz : LectsIn w11 (fun k => k < w11.heap.size) Ax lx := (HLX.out.kept (fun b hb => he11.p.block b hb.2 (by omega))).mono (fun k hk => Nat.lt_of_lt_of_le hk.2 he11.p.size)
            obtain ⟨wQ, hwQ⟩ : ∃ W, w11.alloc (.cells #[.int .i64 K, .int .i64 Y, .int .i64 T, .int .i64 (n : Int)] 26) = W := ⟨_, rfl⟩
            obtain ⟨Q, hk', HQD, HQC, HQV, HQP, HQB⟩ := QK.pack (cl := cx) (cf := cq) (QK.first (HB5.out _ _ hdz) (HGB.out _ _ hdz) hlz (hm11.f.mono (fun k hk => hk.2)) hwQ.symm) HLN.out hT hm11.n hm11.s HVL HPL HRD
            rw [HRL.out] at HQP
            obtain ⟨NX, hNX⟩ : ∃ N, lx.length = N := ⟨_, rfl⟩
            rw [hNX] at HQV ⊢
            have HQD' := hid HQD
            have HQC' := hid HQC
            have HQV' := hid HQV
            have HQP' := hid HQP
            have HQB' := hid HQB
            have HWQ := hid hwQ
            clear HQD HQC HQV HQP HQB hlz hm11 hdz he11 hNX hwQ HTM HONE HNX HSP HVL HPL HRD HODD HLE HGB HB5 g0 g1' g2' g3' HBT HMO
            obtain ⟨TB, hTB⟩ : ∃ p, w11.heap.size = p := ⟨_, rfl⟩
            rw [hTB] at HQC'
            have HTB := hid hTB
            clear hTB
            go_upto_region 17 with fail
            (try rw [HWQ.out])
            (try rw [HTB.out])
            go_region_held3 (fun w' => w'.cell? ⟨w3.heap.size, 0, none⟩ = some (.int .i64 d) ∧ w'.cell? ⟨w3.heap.size, 1, none⟩ = some (.int .i64 s) ∧ w'.cell? ⟨w3.heap.size, 2, none⟩ = some (.int .i64 b) ∧ w'.cell? ⟨w3.heap.size, 3, none⟩ = some (.int .i64 m) ∧ w'.cell? ⟨TB, 0, none⟩ = some (.int .i64 K) ∧ w'.cell? ⟨TB, 1, none⟩ = some (.int .i64 Y) ∧ w'.cell? ⟨TB, 2, none⟩ = some (.int .i64 T) ∧ w'.cell? ⟨TB, 3, none⟩ = some (.int .i64 (n : Int)))
              (first | with_reducible exact HQC'.out _ hk' | with_reducible exact HQC'.out _ (HQD'.out _ hk'))
              (first
                | (go_at_call 3; refine (HQV'.out _ (HQD'.out _ hk')).mono ?_; rintro e w' ⟨rfl, hk'⟩)
                | (go_at_call 3; refine (HQV'.out _ hk').mono ?_; rintro e w' ⟨rfl, hk'⟩)
                | (go_at_call 29; refine (HQP'.out _ hk').mono ?_; rintro e w' ⟨A7, n7, c7, rfl, hk', HR7⟩)
                | (go_at_call 4; refine HR7.out.mono ?_; rintro e w' ⟨rfl, hk'⟩))
            all_goals
              go_wp2_with fail
              go_ret
              exact ⟨rfl, HQB'.out _ hk'⟩
      | true =>
        go_wp2_with fail
        refine (HNX.out _ (n6 : Int) (by omega) (by omega) HMS7.out.dice).mono ?_
        rintro e w8 ⟨k, rfl, hk, k8, he8⟩
        have HMS8 := hid (HMS7.out.played he8)
        clear he8 HMS7
        go_wp2_with fail
        refine (HNX.out _ 2 (by omega) (by omega) HMS8.out.dice).mono ?_
        rintro e w9 ⟨j, rfl, hj, k9, he9⟩
        have HMS9 := hid (HMS8.out.played he9)
        clear he9 HMS8
        have hkn : k < L6.length := by rw [HN6.out]; omega
        obtain ⟨p, hp⟩ : ∃ p, L6[k] = p := ⟨_, rfl⟩
        have hpm : p ∈ L6 := by rw [← hp]; exact List.getElem_mem hkn
        obtain ⟨pl, pa, pcc⟩ := p
        have hp2 := (HMS9.out.s _ hpm).1
        try dsimp only at hp2
        obtain ⟨pb, poff, hpa, hpP, hpf, hpc⟩ := HMS9.out.f.at_ hpm (fun e => by rw [show pl = [] from e] at hp2; simp at hp2)
        try dsimp only at hpa hpc
        subst hpa
        have hjn : j < pl.length := by omega
        have hks := hs6.out _ hpm _ (List.getElem_mem hjn)
        try dsimp only at hks
        have hgb : gf ≠ pb := fun e => hpP.2.2 (by rw [e]; rfl)
        obtain ⟨S0, hS0⟩ : ∃ S0, ba pl[j] = S0 := ⟨_, rfl⟩
        have hS0z : S0.size ≤ 1000 := by rw [← hS0, Lib.size_eq]; simpa [ba] using hks
        have HM9 : Hid (MS w5 w.heap.size c A L (.slice (some ⟨gf, 0, none⟩) n6 c6) L6 w9.drew) := hid (HMS9.out.next (Below.refl _ w9).drew)
        have HFZ : Hid (∀ W : World, MS w5 w.heap.size c A L (.slice (some ⟨gf, 0, none⟩) n6 c6) L6 W → W.frozen? ⟨pb, poff + j, none⟩ = false ∧ W.cell? ⟨pb, poff + j, none⟩ = some (.string S0)) := hid (fun W hm => by
          obtain ⟨pb', poff', e1, _, hf, hc⟩ := hm.f.at_ hpm (fun e => by rw [show pl = [] from e] at hp2; simp at hp2)
          injection e1 with e1
          injection e1 with e1 e2
          subst e1 e2
          exact ⟨hf (poff + j), by rw [hc j _ (List.getElem?_eq_getElem hjn)]; rw [← hS0]⟩)
        have HRW := hid (fun (W : World) (hm : MS w5 w.heap.size c A L (.slice (some ⟨gf, 0, none⟩) n6 c6) L6 W) => by
          have h1 := World.ownsRow.cells hm.f.1.1 (g := gf) rfl k (rowV (pl, some ⟨pb, poff, none⟩, pcc)) (by rw [List.getElem?_map, List.getElem?_eq_getElem hkn, hp]; rfl)
          rw [Addr.add_lit, Nat.zero_add] at h1
          unfold rowV at h1
          dsimp only at h1
          rw [hp2] at h1
          exact h1)
        have hj2 : (j : Int) < 2 := hj
        have hk' := HRW.out _ HM9.out
        obtain ⟨hf9, hcj'⟩ := HFZ.out _ HM9.out
        clear HMS9 hpP hpc hks hpf
        go_upto_region 10 with fail
        go_region_with (first
          | (go_at_call 26; refine (HSP.out _ S0 hS0z HM9.out.dice).mono ?_; rintro e wS ⟨X, rfl, hX, kS, heS⟩
             have HMSS := hid (HM9.out.played heS)
             have hk' := HRW.out _ HMSS.out
             obtain ⟨hfS, hcS⟩ := HFZ.out _ HMSS.out
             clear heS))
        all_goals
          obtain ⟨L7, hL7, hms7⟩ := HMSS.out.store hpm rfl (poff + j) X hX
          have hms8 : MS w5 w.heap.size c A L (.slice (some ⟨gf, 0, none⟩) n6 c6) L7 (wS.setCell ⟨pb, poff + j, none⟩ (.string ⟨X.toArray⟩)) := hms7
          have HMS7 := hid hms8
          have HN7 : Hid (L7.length = n6) := hid (hL7.trans HN6.out)
          clear hms7 hms8 hL7 HMSS HRW HFZ HM9 hfS hcS hk' hcj' hS0 hp hpm HN6 hs6 hf9
          generalize (wS.setCell ⟨pb, poff + j, none⟩ (.string ⟨X.toArray⟩)) = w7' at HMS7 ⊢
          go_wp2_with fail
          refine (HONE.out _ 4 (by omega) (by omega) HMS7.out.dice).mono ?_
          rintro e wA ⟨rA, rfl, kA, heA⟩
          have HMA := hid (HMS7.out.played heA)
          clear heA HMS7
          cases rA with
          | false =>
            have hmt := (HMA.out.toT (by rw [HN7.out]; omega)).2
            have hrl : (L7.map (·.1)).length = _ := (List.length_map _).trans HN7.out
            obtain ⟨rowsT, hrT⟩ : ∃ R, L7.map (·.1) = R := ⟨_, rfl⟩
            rw [hrT] at hmt hrl
            have HMT := hid hmt
            have HRL := hid hrl
            clear hmt hrl hrT HMA
            go_wp2_with fail
            refine (HONE.out _ 2 (by omega) (by omega) HMT.out.dice).mono ?_
            rintro e wO ⟨rO, rfl, kO, heO⟩
            have HMO := hid (HMT.out.played heO)
            clear heO HMT
            cases rO with
            | false =>
              obtain ⟨kT, hdT⟩ := HMO.out.e
              have HBT := hid (HGB.out _ _ hdT)
              obtain ⟨g0, g1', g2', g3', _⟩ := HBT.out
              clear hdT
              go_wp2_with fail
              refine (HTM.out _ HMO.out.dice).mono ?_
              rintro e w11 ⟨K, Y, T, U, kt, rfl, hT, he11⟩
              have hm11 := HMO.out.played he11
              obtain ⟨kz, hdz⟩ := hm11.e
              have hlz : LectsIn w11 (fun k => k < w11.heap.size) A5 ls := (HLE.out _ _ hdz).mono (fun k hk => by have := hdz.p.size; omega)
              obtain ⟨wQ, hwQ⟩ : ∃ W, w11.alloc (.cells #[.int .i64 K, .int .i64 Y, .int .i64 T, .int .i64 (n : Int)] 26) = W := ⟨_, rfl⟩
              obtain ⟨Q, hk', HQD, HQC, HQV, HQP, HQB⟩ := QK.pack (cl := c5) (cf := c6) (QK.first (HB5.out _ _ hdz) (HGB.out _ _ hdz) hlz (hm11.f.mono (fun k hk => hk.2)) hwQ.symm) (by omega) hT hm11.n hm11.s HVL HPL HRD
              rw [HRL.out] at HQP
              obtain ⟨NX, hNX⟩ : ∃ N, ls.length = N := ⟨_, rfl⟩
              rw [hNX] at HQV ⊢
              have HQD' := hid HQD
              have HQC' := hid HQC
              have HQV' := hid HQV
              have HQP' := hid HQP
              have HQB' := hid HQB
              have HWQ := hid hwQ
              clear HQD HQC HQV HQP HQB hlz hm11 hdz he11 hNX hwQ HTM HONE HNX HSP HVL HPL HRD HODD HLE HGB HB5 g0 g1' g2' g3' HBT HMO
              obtain ⟨TB, hTB⟩ : ∃ p, w11.heap.size = p := ⟨_, rfl⟩
              rw [hTB] at HQC'
              have HTB := hid hTB
              clear hTB
              go_upto_region 17 with fail
              (try rw [HWQ.out])
              (try rw [HTB.out])
              go_region_held3 (fun w' => w'.cell? ⟨w3.heap.size, 0, none⟩ = some (.int .i64 d) ∧ w'.cell? ⟨w3.heap.size, 1, none⟩ = some (.int .i64 s) ∧ w'.cell? ⟨w3.heap.size, 2, none⟩ = some (.int .i64 b) ∧ w'.cell? ⟨w3.heap.size, 3, none⟩ = some (.int .i64 m) ∧ w'.cell? ⟨TB, 0, none⟩ = some (.int .i64 K) ∧ w'.cell? ⟨TB, 1, none⟩ = some (.int .i64 Y) ∧ w'.cell? ⟨TB, 2, none⟩ = some (.int .i64 T) ∧ w'.cell? ⟨TB, 3, none⟩ = some (.int .i64 (n : Int)))
                (first | with_reducible exact HQC'.out _ hk' | with_reducible exact HQC'.out _ (HQD'.out _ hk'))
                (first
                  | (go_at_call 3; refine (HQV'.out _ (HQD'.out _ hk')).mono ?_; rintro e w' ⟨rfl, hk'⟩)
                  | (go_at_call 3; refine (HQV'.out _ hk').mono ?_; rintro e w' ⟨rfl, hk'⟩)
                  | (go_at_call 29; refine (HQP'.out _ hk').mono ?_; rintro e w' ⟨A7, n7, c7, rfl, hk', HR7⟩)
                  | (go_at_call 4; refine HR7.out.mono ?_; rintro e w' ⟨rfl, hk'⟩))
              all_goals
                go_wp2_with fail
                go_ret
                exact ⟨rfl, HQB'.out _ hk'⟩
            | true =>
              obtain ⟨kd, hdO⟩ := HMO.out.e
              have cO := HODD.out _ _ hdO
              have CO := hid cO
              clear cO hdO
              go_wp2_with fail
              refine CO.out.mono ?_
              rintro e w10 ⟨lx, Ax, cx, rfl, hlx, hinx, kx, hex⟩
              have HMO := hid (HMO.out.played hex)
              have HLX := hid hinx
              have HLN := hid hlx
              clear hex hinx hlx CO
              obtain ⟨kT, hdT⟩ := HMO.out.e
              have HBT := hid (HGB.out _ _ hdT)
              obtain ⟨g0, g1', g2', g3', _⟩ := HBT.out
              clear hdT
              go_wp2_with fail
              refine (HTM.out _ HMO.out.dice).mono ?_
              rintro e w11 ⟨K, Y, T, U, kt, rfl, hT, he11⟩
              have hm11 := HMO.out.played he11
              obtain ⟨kz, hdz⟩ := hm11.e
              have hlz : LectsIn w11 (fun k => k < w11.heap.size) Ax lx := (HLX.out.kept (fun b hb => he11.p.block b hb.2 (by omega))).mono (fun k hk => Nat.lt_of_lt_of_le hk.2 he11.p.size)
              obtain ⟨wQ, hwQ⟩ : ∃ W, w11.alloc (.cells #[.int .i64 K, .int .i64 Y, .int .i64 T, .int .i64 (n : Int)] 26) = W := ⟨_, rfl⟩
              obtain ⟨Q, hk', HQD, HQC, HQV, HQP, HQB⟩ := QK.pack (cl := cx) (cf := c6) (QK.first (HB5.out _ _ hdz) (HGB.out _ _ hdz) hlz (hm11.f.mono (fun k hk => hk.2)) hwQ.symm) HLN.out hT hm11.n hm11.s HVL HPL HRD
              rw [HRL.out] at HQP
              obtain ⟨NX, hNX⟩ : ∃ N, lx.length = N := ⟨_, rfl⟩
              rw [hNX] at HQV ⊢
              have HQD' := hid HQD
              have HQC' := hid HQC
              have HQV' := hid HQV
              have HQP' := hid HQP
              have HQB' := hid HQB
              have HWQ := hid hwQ
              clear HQD HQC HQV HQP HQB hlz hm11 hdz he11 hNX hwQ HTM HONE HNX HSP HVL HPL HRD HODD HLE HGB HB5 g0 g1' g2' g3' HBT HMO
              obtain ⟨TB, hTB⟩ : ∃ p, w11.heap.size = p := ⟨_, rfl⟩
              rw [hTB] at HQC'
              have HTB := hid hTB
              clear hTB
              go_upto_region 17 with fail
              (try rw [HWQ.out])
              (try rw [HTB.out])
              go_region_held3 (fun w' => w'.cell? ⟨w3.heap.size, 0, none⟩ = some (.int .i64 d) ∧ w'.cell? ⟨w3.heap.size, 1, none⟩ = some (.int .i64 s) ∧ w'.cell? ⟨w3.heap.size, 2, none⟩ = some (.int .i64 b) ∧ w'.cell? ⟨w3.heap.size, 3, none⟩ = some (.int .i64 m) ∧ w'.cell? ⟨TB, 0, none⟩ = some (.int .i64 K) ∧ w'.cell? ⟨TB, 1, none⟩ = some (.int .i64 Y) ∧ w'.cell? ⟨TB, 2, none⟩ = some (.int .i64 T) ∧ w'.cell? ⟨TB, 3, none⟩ = some (.int .i64 (n : Int)))
                (first | with_reducible exact HQC'.out _ hk' | with_reducible exact HQC'.out _ (HQD'.out _ hk'))
                (first
                  | (go_at_call 3; refine (HQV'.out _ (HQD'.out _ hk')).mono ?_; rintro e w' ⟨rfl, hk'⟩)
                  | (go_at_call 3; refine (HQV'.out _ hk').mono ?_; rintro e w' ⟨rfl, hk'⟩)
                  | (go_at_call 29; refine (HQP'.out _ hk').mono ?_; rintro e w' ⟨A7, n7, c7, rfl, hk', HR7⟩)
                  | (go_at_call 4; refine HR7.out.mono ?_; rintro e w' ⟨rfl, hk'⟩))
              all_goals
                go_wp2_with fail
                go_ret
                exact ⟨rfl, HQB'.out _ hk'⟩
          | true =>
            have hz0 : 0 < L7.length := by rw [HN7.out]; exact h0
            obtain ⟨p0, hp0⟩ : ∃ p, L7[0] = p := ⟨_, rfl⟩
            have hpm0 : p0 ∈ L7 := by rw [← hp0]; exact List.getElem_mem hz0
            obtain ⟨pl0, pa0, pc0⟩ := p0
            have hp20 := (HMA.out.s _ hpm0).1
            try dsimp only at hp20
            have hrv : rowV (pl0, pa0, pc0) = .slice pa0 2 pc0 := by unfold rowV; dsimp only; rw [hp20]
            have hc0 := World.ownsRow.cells HMA.out.f.1.1 (g := gf) rfl 0 (rowV (pl0, pa0, pc0)) (by rw [List.getElem?_map, List.getElem?_eq_getElem hz0, hp0]; rfl)
            rw [Addr.add_lit, Nat.zero_add, hrv] at hc0
            have HRV := hid hrv
            have HPM := hid hpm0
            have HN3 : Hid (L7.length + 2 ≤ maxLen) := hid (by unfold maxLen; rw [HN7.out]; omega)
            have HN4 : Hid ((L7.length + 2) * 24 ≤ 140737488355328) := hid (by rw [HN7.out]; omega)
            have HN5 : Hid (∀ o o' : Obj, w5.heap.size ≤ ((wA.alloc o).alloc o').heap.size) := hid (fun o o' => by obtain ⟨_, h0⟩ := HMA.out.e; have := h0.p.size; simp; omega)
            clear hp20 hrv hp0 hpm0 hz0
            go_wp2_with (at_builtin; go_loud (refine wpList_append_own_at _ rfl _ _ 27 rfl w5.heap.size 58 iS (.slice none 0 0) 1 24 Tryz.underlying27 hiS hzS hsS hbS rfl (by decide) (.slice (some ⟨gf, 0, none⟩) n6 c6) L7.length (L7.map rowV) rfl (World.ownsRow.alloc (World.ownsRow.alloc HMA.out.f.1.1 _) _) ⟨wA.heap.size + 1, 0, none⟩ 2 2 [.slice pa0 2 pc0, .slice (some ⟨wA.heap.size, 0, none⟩) 1 1] rfl rfl (two_new2 wA [.string ⟨#[120]⟩] _ _ _) (fun u hu => by simp at hu; rcases hu with rfl | rfl <;> rfl) HN3.out HN4.out (HN5.out _ _) ?_))
            intro v' w4 hown hgrow _ hat
            obtain ⟨Af, rowsT, cq, rfl, hmt⟩ := MS.app HMA.out (by rw [HN7.out]; omega) HPM.out rfl (by rw [HRV.out]; exact hown) (by rw [HRV.out]; exact hgrow) (by simpa using hat)
            have HMT := hid hmt
            obtain ⟨NR, hNR⟩ : ∃ N, rowsT.length = N := ⟨_, rfl⟩
            have HRL := hid hNR
            rw [hNR]
            clear hmt hown hgrow hat hNR hc0 HMA HRV HPM HN3 HN4 HN5
            go_wp2_with fail
            refine (HONE.out _ 2 (by omega) (by omega) HMT.out.dice).mono ?_
            rintro e wO ⟨rO, rfl, kO, heO⟩
            have HMO := hid (HMT.out.played heO)
            clear heO HMT
            cases rO with
            | false =>
              obtain ⟨kT, hdT⟩ := HMO.out.e
              have HBT := hid (HGB.out _ _ hdT)
              obtain ⟨g0, g1', g2', g3', _⟩ := HBT.out
              clear hdT
              go_wp2_with fail
              refine (HTM.out _ HMO.out.dice).mono ?_
              rintro e w11 ⟨K, Y, T, U, kt, rfl, hT, he11⟩
              have hm11 := HMO.out.played he11
              obtain ⟨kz, hdz⟩ := hm11.e
              have hlz : LectsIn w11 (fun k => k < w11.heap.size) A5 ls := (HLE.out _ _ hdz).mono (fun k hk => by have := hdz.p.size; omega)
              obtain ⟨wQ, hwQ⟩ : ∃ W, w11.alloc (.cells #[.int .i64 K, .int .i64 Y, .int .i64 T, .int .i64 (n : Int)] 26) = W := ⟨_, rfl⟩
              obtain ⟨Q, hk', HQD, HQC, HQV, HQP, HQB⟩ := QK.pack (cl := c5) (cf := cq) (QK.first (HB5.out _ _ hdz) (HGB.out _ _ hdz) hlz (hm11.f.mono (fun k hk => hk.2)) hwQ.symm) (by omega) hT hm11.n hm11.s HVL HPL HRD
              rw [HRL.out] at HQP
              obtain ⟨NX, hNX⟩ : ∃ N, ls.length = N := ⟨_, rfl⟩
              rw [hNX] at HQV ⊢
              have HQD' := hid HQD
              have HQC' := hid HQC
              have HQV' := hid HQV
              have HQP' := hid HQP
              have HQB' := hid HQB
              have HWQ := hid hwQ
              clear HQD HQC HQV HQP HQB hlz hm11 hdz he11 hNX hwQ HTM HONE HNX HSP HVL HPL HRD HODD HLE HGB HB5 g0 g1' g2' g3' HBT HMO
              obtain ⟨TB, hTB⟩ : ∃ p, w11.heap.size = p := ⟨_, rfl⟩
              rw [hTB] at HQC'
              have HTB := hid hTB
              clear hTB
              go_upto_region 17 with fail
              (try rw [HWQ.out])
              (try rw [HTB.out])
              go_region_held3 (fun w' => w'.cell? ⟨w3.heap.size, 0, none⟩ = some (.int .i64 d) ∧ w'.cell? ⟨w3.heap.size, 1, none⟩ = some (.int .i64 s) ∧ w'.cell? ⟨w3.heap.size, 2, none⟩ = some (.int .i64 b) ∧ w'.cell? ⟨w3.heap.size, 3, none⟩ = some (.int .i64 m) ∧ w'.cell? ⟨TB, 0, none⟩ = some (.int .i64 K) ∧ w'.cell? ⟨TB, 1, none⟩ = some (.int .i64 Y) ∧ w'.cell? ⟨TB, 2, none⟩ = some (.int .i64 T) ∧ w'.cell? ⟨TB, 3, none⟩ = some (.int .i64 (n : Int)))
                (first | with_reducible exact HQC'.out _ hk' | with_reducible exact HQC'.out _ (HQD'.out _ hk'))
                (first
                  | (go_at_call 3; refine (HQV'.out _ (HQD'.out _ hk')).mono ?_; rintro e w' ⟨rfl, hk'⟩)
                  | (go_at_call 3; refine (HQV'.out _ hk').mono ?_; rintro e w' ⟨rfl, hk'⟩)
                  | (go_at_call 29; refine (HQP'.out _ hk').mono ?_; rintro e w' ⟨A7, n7, c7, rfl, hk', HR7⟩)
                  | (go_at_call 4; refine HR7.out.mono ?_; rintro e w' ⟨rfl, hk'⟩))
              all_goals
                go_wp2_with fail
                go_ret
                exact ⟨rfl, HQB'.out _ hk'⟩
            | true =>
              obtain ⟨kd, hdO⟩ := HMO.out.e
              have cO := HODD.out _ _ hdO
              have CO := hid cO
              clear cO hdO
              go_wp2_with fail
              refine CO.out.mono ?_
              rintro e w10 ⟨lx, Ax, cx, rfl, hlx, hinx, kx, hex⟩
              have HMO := hid (HMO.out.played hex)
              have HLX := hid hinx
              have HLN := hid hlx
              clear hex hinx hlx CO
              obtain ⟨kT, hdT⟩ := HMO.out.e
              have HBT := hid (HGB.out _ _ hdT)
              obtain ⟨g0, g1', g2', g3', _⟩ := HBT.out
              clear hdT
              go_wp2_with fail
              refine (HTM.out _ HMO.out.dice).mono ?_
              rintro e w11 ⟨K, Y, T, U, kt, rfl, hT, he11⟩
              have hm11 := HMO.out.played he11
              obtain ⟨kz, hdz⟩ := hm11.e
              have hlz : LectsIn w11 (fun k => k < w11.heap.size) Ax lx := (HLX.out.kept (fun b hb => he11.p.block b hb.2 (by omega))).mono (fun k hk => Nat.lt_of_lt_of_le hk.2 he11.p.size)
              obtain ⟨wQ, hwQ⟩ : ∃ W, w11.alloc (.cells #[.int .i64 K, .int .i64 Y, .int .i64 T, .int .i64 (n : Int)] 26) = W := ⟨_, rfl⟩
              obtain ⟨Q, hk', HQD, HQC, HQV, HQP, HQB⟩ := QK.pack (cl := cx) (cf := cq) (QK.first (HB5.out _ _ hdz) (HGB.out _ _ hdz) hlz (hm11.f.mono (fun k hk => hk.2)) hwQ.symm) HLN.out hT hm11.n hm11.s HVL HPL HRD
              rw [HRL.out] at HQP
              obtain ⟨NX, hNX⟩ : ∃ N, lx.length = N := ⟨_, rfl⟩
              rw [hNX] at HQV ⊢
              have HQD' := hid HQD
              have HQC' := hid HQC
              have HQV' := hid HQV
              have HQP' := hid HQP
              have HQB' := hid HQB
              have HWQ := hid hwQ
              clear HQD HQC HQV HQP HQB hlz hm11 hdz he11 hNX hwQ HTM HONE HNX HSP HVL HPL HRD HODD HLE HGB HB5 g0 g1' g2' g3' HBT HMO
              obtain ⟨TB, hTB⟩ : ∃ p, w11.heap.size = p := ⟨_, rfl⟩
              rw [hTB] at HQC'
              have HTB := hid hTB
              clear hTB
              go_upto_region 17 with fail
              (try rw [HWQ.out])
              (try rw [HTB.out])
              go_region_held3 (fun w' => w'.cell? ⟨w3.heap.size, 0, none⟩ = some (.int .i64 d) ∧ w'.cell? ⟨w3.heap.size, 1, none⟩ = some (.int .i64 s) ∧ w'.cell? ⟨w3.heap.size, 2, none⟩ = some (.int .i64 b) ∧ w'.cell? ⟨w3.heap.size, 3, none⟩ = some (.int .i64 m) ∧ w'.cell? ⟨TB, 0, none⟩ = some (.int .i64 K) ∧ w'.cell? ⟨TB, 1, none⟩ = some (.int .i64 Y) ∧ w'.cell? ⟨TB, 2, none⟩ = some (.int .i64 T) ∧ w'.cell? ⟨TB, 3, none⟩ = some (.int .i64 (n : Int)))
                (first | with_reducible exact HQC'.out _ hk' | with_reducible exact HQC'.out _ (HQD'.out _ hk'))
                (first
                  | (go_at_call 3; refine (HQV'.out _ (HQD'.out _ hk')).mono ?_; rintro e w' ⟨rfl, hk'⟩)
                  | (go_at_call 3; refine (HQV'.out _ hk').mono ?_; rintro e w' ⟨rfl, hk'⟩)
                  | (go_at_call 29; refine (HQP'.out _ hk').mono ?_; rintro e w' ⟨A7, n7, c7, rfl, hk', HR7⟩)
                  | (go_at_call 4; refine HR7.out.mono ?_; rintro e w' ⟨rfl, hk'⟩))
              all_goals
                go_wp2_with fail
                go_ret
                exact ⟨rfl, HQB'.out _ hk'⟩
    · have h0z : ¬ (0 : Int) < (n6 : Int) := by omega
      obtain rfl : n6 = 0 := by omega
      have HMA := HMS
      have hmt := (HMA.out.toT (by rw [HN6.out]; omega)).2
      have hrl : (L6.map (·.1)).length = _ := (List.length_map _).trans HN6.out
      obtain ⟨rowsT, hrT⟩ : ∃ R, L6.map (·.1) = R := ⟨_, rfl⟩
      rw [hrT] at hmt hrl
      have HMT := hid hmt
      have HRL := hid hrl
      clear hmt hrl hrT HMA HMS
      go_wp2_with fail
      refine (HONE.out _ 2 (by omega) (by omega) HMT.out.dice).mono ?_
      rintro e wO ⟨rO, rfl, kO, heO⟩
      have HMO := hid (HMT.out.played heO)
      clear heO HMT
      cases rO with
      | false =>
        obtain ⟨kT, hdT⟩ := HMO.out.e
        have HBT := hid (HGB.out _ _ hdT)
        obtain ⟨g0, g1', g2', g3', _⟩ := HBT.out
        clear hdT
        go_wp2_with fail
        refine (HTM.out _ HMO.out.dice).mono ?_
        rintro e w11 ⟨K, Y, T, U, kt, rfl, hT, he11⟩
        have hm11 := HMO.out.played he11
        obtain ⟨kz, hdz⟩ := hm11.e
        have hlz : LectsIn w11 (fun k => k < w11.heap.size) A5 ls := (HLE.out _ _ hdz).mono (fun k hk => by have := hdz.p.size; omega)
        obtain ⟨wQ, hwQ⟩ : ∃ W, w11.alloc (.cells #[.int .i64 K, .int .i64 Y, .int .i64 T, .int .i64 (n : Int)] 26) = W := ⟨_, rfl⟩
        obtain ⟨Q, hk', HQD, HQC, HQV, HQP, HQB⟩ := QK.pack (cl := c5) (cf := c6) (QK.first (HB5.out _ _ hdz) (HGB.out _ _ hdz) hlz (hm11.f.mono (fun k hk => hk.2)) hwQ.symm) (by omega) hT hm11.n hm11.s HVL HPL HRD
        rw [HRL.out] at HQP
        obtain ⟨NX, hNX⟩ : ∃ N, ls.length = N := ⟨_, rfl⟩
        rw [hNX] at HQV ⊢
        have HQD' := hid HQD
        have HQC' := hid HQC
        have HQV' := hid HQV
        have HQP' := hid HQP
        have HQB' := hid HQB
        have HWQ := hid hwQ
        clear HQD HQC HQV HQP HQB hlz hm11 hdz he11 hNX hwQ HTM HONE HNX HSP HVL HPL HRD HODD HLE HGB HB5 g0 g1' g2' g3' HBT HMO
        obtain ⟨TB, hTB⟩ : ∃ p, w11.heap.size = p := ⟨_, rfl⟩
        rw [hTB] at HQC'
        have HTB := hid hTB
        clear hTB
        go_upto_region 17 with fail
        (try rw [HWQ.out])
        (try rw [HTB.out])
        go_region_held3 (fun w' => w'.cell? ⟨w3.heap.size, 0, none⟩ = some (.int .i64 d) ∧ w'.cell? ⟨w3.heap.size, 1, none⟩ = some (.int .i64 s) ∧ w'.cell? ⟨w3.heap.size, 2, none⟩ = some (.int .i64 b) ∧ w'.cell? ⟨w3.heap.size, 3, none⟩ = some (.int .i64 m) ∧ w'.cell? ⟨TB, 0, none⟩ = some (.int .i64 K) ∧ w'.cell? ⟨TB, 1, none⟩ = some (.int .i64 Y) ∧ w'.cell? ⟨TB, 2, none⟩ = some (.int .i64 T) ∧ w'.cell? ⟨TB, 3, none⟩ = some (.int .i64 (n : Int)))
          (first | with_reducible exact HQC'.out _ hk' | with_reducible exact HQC'.out _ (HQD'.out _ hk'))
          (first
            | (go_at_call 3; refine (HQV'.out _ (HQD'.out _ hk')).mono ?_; rintro e w' ⟨rfl, hk'⟩)
            | (go_at_call 3; refine (HQV'.out _ hk').mono ?_; rintro e w' ⟨rfl, hk'⟩)
            | (go_at_call 29; refine (HQP'.out _ hk').mono ?_; rintro e w' ⟨A7, n7, c7, rfl, hk', HR7⟩)
            | (go_at_call 4; refine HR7.out.mono ?_; rintro e w' ⟨rfl, hk'⟩))
        all_goals
          go_wp2_with fail
          go_ret
          exact ⟨rfl, HQB'.out _ hk'⟩
      | true =>
        obtain ⟨kd, hdO⟩ := HMO.out.e
        have cO := HODD.out _ _ hdO
        have CO := hid cO
        clear cO hdO
        go_wp2_with fail
        refine CO.out.mono ?_
        rintro e w10 ⟨lx, Ax, cx, rfl, hlx, hinx, kx, hex⟩
        have HMO := hid (HMO.out.played hex)
        have HLX := hid hinx
        have HLN := hid hlx
        clear hex hinx hlx CO
        obtain ⟨kT, hdT⟩ := HMO.out.e
        have HBT := hid (HGB.out _ _ hdT)
        obtain ⟨g0, g1', g2', g3', _⟩ := HBT.out
        clear hdT
        go_wp2_with fail
        refine (HTM.out _ HMO.out.dice).mono ?_
        rintro e w11 ⟨K, Y, T, U, kt, rfl, hT, he11⟩
        have hm11 := HMO.out.played he11
        obtain ⟨kz, hdz⟩ := hm11.e
        have hlz : LectsIn w11 (fun k => k < w11.heap.size) Ax lx := (HLX.out.kept (fun b hb => he11.p.block b hb.2 (by omega))).mono (fun k hk => Nat.lt_of_lt_of_le hk.2 he11.p.size)
        obtain ⟨wQ, hwQ⟩ : ∃ W, w11.alloc (.cells #[.int .i64 K, .int .i64 Y, .int .i64 T, .int .i64 (n : Int)] 26) = W := ⟨_, rfl⟩
        obtain ⟨Q, hk', HQD, HQC, HQV, HQP, HQB⟩ := QK.pack (cl := cx) (cf := c6) (QK.first (HB5.out _ _ hdz) (HGB.out _ _ hdz) hlz (hm11.f.mono (fun k hk => hk.2)) hwQ.symm) HLN.out hT hm11.n hm11.s HVL HPL HRD
        rw [HRL.out] at HQP
        obtain ⟨NX, hNX⟩ : ∃ N, lx.length = N := ⟨_, rfl⟩
        rw [hNX] at HQV ⊢
        have HQD' := hid HQD
        have HQC' := hid HQC
        have HQV' := hid HQV
        have HQP' := hid HQP
        have HQB' := hid HQB
        have HWQ := hid hwQ
        clear HQD HQC HQV HQP HQB hlz hm11 hdz he11 hNX hwQ HTM HONE HNX HSP HVL HPL HRD HODD HLE HGB HB5 g0 g1' g2' g3' HBT HMO
        obtain ⟨TB, hTB⟩ : ∃ p, w11.heap.size = p := ⟨_, rfl⟩
        rw [hTB] at HQC'
        have HTB := hid hTB
        clear hTB
        go_upto_region 17 with fail
        (try rw [HWQ.out])
        (try rw [HTB.out])
        go_region_held3 (fun w' => w'.cell? ⟨w3.heap.size, 0, none⟩ = some (.int .i64 d) ∧ w'.cell? ⟨w3.heap.size, 1, none⟩ = some (.int .i64 s) ∧ w'.cell? ⟨w3.heap.size, 2, none⟩ = some (.int .i64 b) ∧ w'.cell? ⟨w3.heap.size, 3, none⟩ = some (.int .i64 m) ∧ w'.cell? ⟨TB, 0, none⟩ = some (.int .i64 K) ∧ w'.cell? ⟨TB, 1, none⟩ = some (.int .i64 Y) ∧ w'.cell? ⟨TB, 2, none⟩ = some (.int .i64 T) ∧ w'.cell? ⟨TB, 3, none⟩ = some (.int .i64 (n : Int)))
          (first | with_reducible exact HQC'.out _ hk' | with_reducible exact HQC'.out _ (HQD'.out _ hk'))
          (first
            | (go_at_call 3; refine (HQV'.out _ (HQD'.out _ hk')).mono ?_; rintro e w' ⟨rfl, hk'⟩)
            | (go_at_call 3; refine (HQV'.out _ hk').mono ?_; rintro e w' ⟨rfl, hk'⟩)
            | (go_at_call 29; refine (HQP'.out _ hk').mono ?_; rintro e w' ⟨A7, n7, c7, rfl, hk', HR7⟩)
            | (go_at_call 4; refine HR7.out.mono ?_; rintro e w' ⟨rfl, hk'⟩))
        all_goals
          go_wp2_with fail
          go_ret
          exact ⟨rfl, HQB'.out _ hk'⟩
  · rw [decide_eq_false hl] at cL
    clear hE h
    go_enter Tryz.func5, Tryz.ntmps5
    go_wp2_with fail
    refine cL.mono ?_
    rintro e w' ⟨rfl, rfl⟩
    go_wp2_with fail
    refine (cK.out _ (Below.refl _ _)).mono ?_
    rintro e w2 ⟨rfl, hb2⟩
    have HB2 := hid hb2
    clear hb2
    go_wp2
    go_ret
    exact ⟨rfl, HB2.out⟩
end Go.Proofs.YtnpfmoalgphkcaaGreatDoor
