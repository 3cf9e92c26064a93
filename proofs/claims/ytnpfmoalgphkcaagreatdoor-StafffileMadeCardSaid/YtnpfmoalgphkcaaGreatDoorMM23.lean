/-
  The records of lecturers by the specification, once more: Write, with what lets its rows be changed. Conditions: as in R9H. Rows of records that are changed in .. Conditions: as stated.
-/
import Derived.Test.YtnpfmoalgphkcaaGreatDoorMM01
import Derived.Test.YtnpfmoalgphkcaaGreatDoorMM02
import Derived.Test.YtnpfmoalgphkcaaGreatDoorMM03
import Derived.Test.YtnpfmoalgphkcaaGreatDoorMM04
import Derived.Test.YtnpfmoalgphkcaaGreatDoorMM05
import Derived.Test.YtnpfmoalgphkcaaGreatDoorMM06
import Derived.Test.YtnpfmoalgphkcaaGreatDoorMM07
import Derived.Test.YtnpfmoalgphkcaaGreatDoorMM08
import Derived.Test.YtnpfmoalgphkcaaGreatDoorMM09
import Derived.Test.YtnpfmoalgphkcaaGreatDoorMM10
import Derived.Test.YtnpfmoalgphkcaaGreatDoorMM11
import Derived.Test.YtnpfmoalgphkcaaGreatDoorMM12
import Derived.Test.YtnpfmoalgphkcaaGreatDoorMM13
import Derived.Test.YtnpfmoalgphkcaaGreatDoorMM14
import Derived.Test.YtnpfmoalgphkcaaGreatDoorMM15
import Derived.Test.YtnpfmoalgphkcaaGreatDoorMM16
import Derived.Test.YtnpfmoalgphkcaaGreatDoorMM17
import Derived.Test.YtnpfmoalgphkcaaGreatDoorMM18
import Derived.Test.YtnpfmoalgphkcaaGreatDoorMM20
import Derived.Test.YtnpfmoalgphkcaaGreatDoorMM21
import Derived.Test.YtnpfmoalgphkcaaGreatDoorMM22
import Derived.Test.YtnpfmoalgphkcaaGreatDoorProg
import Derived.WalkKit
import Derived.WalkSpells
import Derived.WalkLawsBesides
import Derived.Lib.Hide
import Derived.Deep.QuietTactic
import Derived.BigQuiet
import Derived.Laws.Rows
import Derived.OwnWalk
import Derived.Lib.BufferWrite
import Derived.Lib.UnsafeStr
import Derived.Laws.IdiomStrings
import Derived.Laws.BytesArg
import Derived.Laws.BytesString
import Derived.Laws.OwnMore
import Derived.Lib.IndexLaws
import Derived.Lib.ItoaNum
import Derived.Lib.Atoi
import Derived.Lib.Bytealg
import Derived.Laws.BitsAllLaws
import Derived.Laws.BitsLemmas
import Derived.Deep.MidRow
import Derived.Shelf.Strings.Builder1
import Derived.Shelf.Strings.Builder2
import Derived.Shelf.Strings.OnBuilder
import Derived.Shelf.Strings.BuilderF
import Derived.Shelf.Strings.BuilderK
import Derived.Shelf.Strings.Builder2Cap
import Derived.Shelf.Strconv.Atoi
import Derived.Shelf.Strconv.Itoa0
import Derived.Shelf.Strconv.Itoa1
import Derived.Shelf.LaysM
import Derived.Shelf.Strconv.Itoa2
import Derived.Shelf.Strconv.Itoa3
import Derived.Shelf.Strconv.AtoiErrFast
import Derived.Shelf.Strconv.ParseIntEmpty
import Derived.Shelf.Strconv.AtoiFail
import Derived.Shelf.Strconv.Clone
import Derived.Shelf.Strconv.SyntaxError
import Derived.Shelf.LaysC
import Derived.Shelf.Strconv.ToError
import Derived.Shelf.Strconv.AtoiErr
import Derived.Shelf.Strings.Search1
import Derived.Shelf.Strings.Search2
import Derived.Shelf.Strings.Search3
import Derived.Shelf.Strings.Cut
import Derived.Shelf.Strings.Shaped
import Derived.Shelf.Strings.Prefix
import Derived.Shelf.Unicode.DecodeSlow
import Derived.Shelf.Strings.BuilderCap
import Derived.Lib.AtoiErrMem
import Derived.Handy
import Derived.RangeFuncNested
import Derived.RangeFuncBound
import Derived.RangeFuncCalls
import Derived.RangeFuncLeaves
import Derived.Shelf.Abstract
import Derived.Shelf.RegionOpen
import Derived.OwnWalkIn
import Derived.Lib.SlTrimSet
import Derived.Shelf.Strings.SlTrimAscii
import Derived.Laws.ResultCell
import Derived.RegionTactic
import Derived.Lib.Repeat
import Derived.Deep.RegionHeld3
import Derived.Lib.SlicesS
import Derived.TacticsInMore
import Derived.LoopNIn
import Derived.LoopIn
import Derived.Deep.DeepCutAuto
import Derived.Lib.Join
import Derived.Laws.Concat
import Derived.Deep.RegionLaw
import Derived.Shelf.SlGeneric
import Derived.Shelf.SlicesQ.IndexFunc
import Derived.Sort.Walk0
import Derived.Maps.OwnSet
import Derived.Maps.Range
import Derived.Sort.EncStr
import Derived.StillTailTactics
import Derived.Lib.AppendIntMem
import Derived.Maps.AppendAt
import Derived.RangeFuncBox
import Derived.Deep.CutBlock
import Derived.Deep.AppendLies
import Derived.IntWalk
import Derived.Deep.RegionLawGrows
set_option linter.unusedVariables false
namespace Go.Proofs.YtnpfmoalgphkcaaGreatDoor
open Go Go.Proofs Go.RowKit Go.Lib
def RowsF (w : World) (B : Nat) (v : Value) (L : List RowA) : Prop := RowsRow w B v L ∧ ∀ p ∈ L, p.1 ≠ [] → ∀ b off, p.2.1 = some ⟨b, off, none⟩ → ∀ j, w.frozen? ⟨b, j, none⟩ = false
theorem RowsF.nil (w : World) (B : Nat) : RowsF w B (.slice none 0 0) [] := ⟨RowsRow.nil _ _, fun p hp => by simp at hp⟩
theorem RowsF.low {w : World} {B B' : Nat} {v : Value} {L : List RowA} (h : RowsF w B v L) (hB : B' ≤ B) : RowsF w B' v L := ⟨h.1.low hB, h.2⟩
theorem RowsF.at_ {w : World} {B : Nat} {v : Value} {L : List RowA} (h : RowsF w B v L) {p : RowA} (hp : p ∈ L) (hne : p.1 ≠ []) : ∃ b off, p.2.1 = some ⟨b, off, none⟩ ∧ (B ≤ b ∧ b < w.heap.size ∧ v.ownBlock ≠ some b) ∧ (∀ j, w.frozen? ⟨b, j, none⟩ = false) ∧ ∀ (j : Nat) (s : Str), p.1[j]? = some s → w.cell? ⟨b, off + j, none⟩ = some (.string (ba s)) := by
  rcases (h.1.2 p hp).1 with h0 | ⟨b, off, hA, hP, hc⟩
  · exact absurd h0 hne
  · exact ⟨b, off, hA, hP, h.2 p hp hne b off hA, hc⟩
theorem RowsF.snoc {w w1 w2 w3 w4 : World} {B : Nat} {v v' : Value} {L : List RowA} {l : List Str} {A : Option Addr} {c : Nat} (h : RowsF w B v L) (hBw : B ≤ w1.heap.size) (h1 : Below w.heap.size w w1) (hb : Below w1.heap.size w1 w2) (hr : S3.StrRow w2 w1.heap.size (.slice A l.length c) l)
    (h3 : Below w2.heap.size w2 w3) (hown' : w4.ownsRow B 58 1 v' (L.length + 1) (L.map rowV ++ [.slice A l.length c])) (hg : w3.grownBy w4 v.ownBlock) (hat : v'.ownBlock = v.ownBlock ∨ v'.ownBlock = some w3.heap.size) : RowsF w4 B v' (L ++ [(l, A, c)]) := by
  have hs1 := h1.size
  have hs2 := hb.size
  have hs3 := h3.size
  have hvl : ∀ g, v.ownBlock = some g → g < w.heap.size := fun g hg => (World.ownsRow.lt h.1.1 g hg).2
  refine ⟨RowsRow.snoc h.1 hBw h1 hb hr h3 hown' hg hat, fun p hp hne b off hA j => ?_⟩
  rcases List.mem_append.1 hp with hp | hp
  · obtain ⟨b', off', hA', ⟨k1, k2, k3⟩, hf, _⟩ := h.at_ hp hne
    rw [hA] at hA'
    injection hA' with hA'
    injection hA' with e1 e2
    subst e1
    have e : w4.heap[b]? = w.heap[b]? := by rw [hg.block b (by omega) (fun e => k3 e.symm), h3.block b (by omega), hb.block b (by omega), h1.block b k2]
    exact (World.frozen?_of_block (a := ⟨b, j, none⟩) e).trans (hf j)
  · rw [List.mem_singleton] at hp
    subst hp
    have hl0 : 0 < l.length := List.length_pos_iff.2 hne
    obtain ⟨g, cap, hv, hgB, hgs⟩ := World.ownsRow.form hr hl0
    dsimp only at hA
    subst hA
    injection hv with hv _ hc
    injection hv with hv
    injection hv with e1 e2
    subst e1 e2 hc
    have hf := own_free hr j
    have e : w4.heap[b]? = w2.heap[b]? := by rw [hg.block b (by omega) (fun e => by have := hvl b e.symm; omega), h3.block b (by omega)]
    exact (World.frozen?_of_block (a := ⟨b, j, none⟩) e).trans hf
def WriteOutF (o : List (List Str) × Int) (w : World) (e : Ending) (w' : World) : Prop := (∃ v L, L.map (·.1) = o.1 ∧ e = .returned (.tuple #[v, .int .i64 o.2]) ∧ RowsF w' w.heap.size v L) ∧ Below w.heap.size w w'
set_option maxHeartbeats 16000000 in
set_option maxRecDepth 100000 in
theorem rlwriteF_any (d s b m n : Int) (A : Option Addr) (l : List LectD) (c : Nat) (w : World) (h : LectsIn w (fun k => k < w.heap.size) A l) (hE : REnv7 w) :
    Calls Tryz.prog 9 #[.slice A l.length c, .agg #[.int .i64 d, .int .i64 s, .int .i64 b, .int .i64 m], .int .i64 n] w (WriteOutF (writeL d s b m n l) w) := by
  obtain ⟨iS, hiS, hzS, hsS, hbS⟩ := info_parts infoStrs7
  unfold WriteOutF writeL
  have hk := K1.first w d s b m 24
  have HK := hid hk
  have HH := hid (fun (w' : World) (hb : Below w.heap.size w w') => h.below hb)
  have HE := hid (fun (w' : World) (hb : Below w.heap.size w w') => hE.below hb (Nat.le_refl _))
  have cV : Hid (∀ w', Below w.heap.size w w' → Calls Tryz.prog 14 #[.slice A l.length c, .agg #[.int .i64 d, .int .i64 s, .int .i64 b, .int .i64 m], .int .i64 n] w' (Says (.int .i64 (validL d s b m n l)) w')) :=
    hid (fun w' hb => rlvalid_any d s b m n A l c w' ((h.below hb).mono (fun k hk => Nat.lt_of_lt_of_le hk hb.size)))
  have cV' := cV.out
  unfold Says at cV'
  obtain ⟨R, hR⟩ : ∃ R, validL d s b m n l = R := ⟨_, rfl⟩
  rw [hR] at cV' ⊢
  have CV := hid cV'
  clear hk h hE cV cV'
  by_cases hR0 : R = 0
  · subst hR0
    obtain ⟨h16, hok⟩ := validL_ok hR
    have HOK := hid hok
    rw [if_neg (by simp)]
    clear hR hok
    go_enter Tryz.func9, Tryz.ntmps9
    go_wp2_with fail
    refine (CV.out _ HK.out.b).mono ?_
    rintro e w1 ⟨rfl, hb⟩
    have HK1 := hid (HK.out.next hb)
    clear hb HK CV
    go_wp2
    go_loopw [9, 10] (fun v iv wr => ∃ (i : Nat) (L : List RowA), iv = .int .i64 (i : Int) ∧ i ≤ l.length ∧ Hid (L.map (·.1) = (l.take i).map (rowL d s b m n)) ∧ Hid (RowsF wr (w.heap.size + 1) v L) ∧ Hid (K1 w d s b m wr)) (fun _ iv _ => l.length - (RowKit.intOf iv).toNat)
    case atStart => exact ⟨0, [], rfl, Nat.zero_le _, hid rfl, hid (RowsF.nil _ _), hid HK1.out⟩
    case round =>
      obtain ⟨i, L, rfl, hi, hL, hrowF, hKK⟩ := hrel
      have hrow := hid hrowF.out.1
      obtain ⟨Ar, cr, hvr, _⟩ := hrow.out.rowsIn
      subst hvr
      have hLl : L.length = i := by
        have := congrArg List.length hL.out
        rw [List.length_map, List.length_map, List.length_take] at this
        omega
      have HLL := hid hLl
      clear hLl
      by_cases hlt : i < l.length
      · have hltz : (i : Int) < (l.length : Int) := by omega
        have di : decide (l.length ≤ i) = false := decide_eq_false (by omega)
        obtain ⟨fb, fo, ⟨A2, c2⟩, rfl, hfb, hri, hcell0, hcell1⟩ := (HH.out _ hKK.out.b).at_ hlt
        have hn2 := lectM_len (HOK.out _ (List.getElem_mem hlt))
        have hst : (l.take (i + 1)).map (rowL d s b m n) = L.map (·.1) ++ [rowL d s b m n l[i]] := by rw [hL.out, List.take_succ_eq_append_getElem hlt, List.map_append]; rfl
        obtain ⟨⟨code, ts⟩, hr⟩ : ∃ r, l[i] = r := ⟨_, rfl⟩
        rw [hr] at hcell0 hcell1 hst hri hn2
        obtain ⟨ht, ht1, ht2⟩ := hri
        dsimp only at hcell0 hcell1 ht ht1 ht2 hn2
        change (l.take (i + 1)).map (rowL d s b m n) = L.map (·.1) ++ [[code, timesS d s b m n ts]] at hst
        have hk0 : WL w d s b m fb (fo + i * 2) (.string (ba code)) (.slice A2 ts.length c2) wr := ⟨hKK.out, hcell0, hcell1, hfb⟩
        have cT : ∀ (w' : World), Below w.heap.size wr w' → Calls Tryz.prog 32 #[.slice A2 ts.length c2, .agg #[.int .i64 d, .int .i64 s, .int .i64 b, .int .i64 m], .int .i64 n] w' (Says (.string (ba (timesS d s b m n ts))) w') := fun w' hb => rwriteTimes_any d s b m n A2 ts c2 w.heap.size w' (Nat.le_trans hKK.out.b.size hb.size) (ht.below hb) hn2 (HE.out w' (hKK.out.b.trans hb))
        unfold Says at cT
        obtain ⟨X1, hX1⟩ : ∃ X, ba code = X := ⟨_, rfl⟩
        obtain ⟨X5, hX5⟩ : ∃ X, ba (timesS d s b m n ts) = X := ⟨_, rfl⟩
        obtain ⟨RW, hRW⟩ : ∃ r, [code, timesS d s b m n ts] = r := ⟨_, rfl⟩
        have hrw5 : RW.length = 2 := by rw [← hRW]; rfl
        have hrwv : S3.strVals RW = [.string X1, .string X5] := by rw [← hRW, ← hX1, ← hX5]; rfl
        rw [hRW] at hst
        rw [hX1] at hk0
        rw [hX5] at cT
        obtain ⟨T1, hT1⟩ : ∃ F, ts.length = F := ⟨_, rfl⟩
        rw [hT1] at hk0 cT
        have HK0 := hid hk0
        have CT := hid cT
        have HST := hid hst
        have HR5 := hid hrw5
        have HRV := hid hrwv
        clear hr hRW hX1 hX5 hT1 hst hk0 hcell0 hcell1 ht ht1 ht2 hn2 cT hrw5 hrwv
        go_upto_region 8 with fail
        refine wp_region_held_drew (S := WL w d s b m fb (fo + i * 2) (.string X1) (.slice A2 T1 c2)) (by kernel_rfl) HK0.out.drew (fun hHeld => ?_)
        (refine wpAnyH_take (i := 0) (oi := _) (v := ?_) rfl (by kernel_rfl) (by kernel_rfl) (by kernel_rfl) (fun _ _ _ h => h) (Or.inl ⟨by rfl, ?_⟩) (by assumption) ?_; rotate_left; (intro wS hSw; obtain ⟨⟨⟨x0, x1, x2, x3, _⟩, _⟩, y0, y1, _⟩ := hSw; (try simp only [List.getElem_toArray, List.getElem_cons_zero]); go_simp; (try with_reducible rfl)))
        try simp only [List.getElem_toArray, List.getElem_cons_zero, Act.put, List.setIfInBounds_toArray, List.set_cons_zero, List.set_cons_succ]
        (refine wpAnyH_take (i := 1) (oi := _) (v := ?_) rfl (by kernel_rfl) (by kernel_rfl) (by kernel_rfl) (fun _ _ _ h => h) (Or.inl ⟨by rfl, ?_⟩) (by assumption) ?_; rotate_left; (intro wS hSw; obtain ⟨⟨⟨x0, x1, x2, x3, _⟩, _⟩, y0, y1, _⟩ := hSw; (try simp only [List.getElem_toArray, List.getElem_cons_succ, List.getElem_cons_zero]); go_simp; (try with_reducible rfl)))
        try simp only [List.getElem_toArray, List.getElem_cons_succ, List.getElem_cons_zero, Act.put, List.setIfInBounds_toArray, List.set_cons_zero, List.set_cons_succ]
        (refine wpAnyH_take (i := 2) (oi := _) (v := ?_) rfl (by kernel_rfl) (by kernel_rfl) (by kernel_rfl) (fun _ _ _ h => h) (Or.inl ⟨by rfl, ?_⟩) (by assumption) ?_; rotate_left; (intro wS hSw; obtain ⟨⟨⟨x0, x1, x2, x3, _⟩, _⟩, y0, y1, _⟩ := hSw; (try simp only [List.getElem_toArray, List.getElem_cons_succ, List.getElem_cons_zero]); go_simp; (try with_reducible rfl)))
        try simp only [List.getElem_toArray, List.getElem_cons_succ, List.getElem_cons_zero, Act.put, List.setIfInBounds_toArray, List.set_cons_zero, List.set_cons_succ]
        (refine wpAnyH_take (i := 3) (oi := _) (v := ?_) rfl (by kernel_rfl) (by kernel_rfl) (by kernel_rfl) (fun _ _ _ h => h) (Or.inl ⟨by rfl, ?_⟩) (by assumption) ?_; rotate_left; (intro wS hSw; obtain ⟨⟨⟨x0, x1, x2, x3, _⟩, _⟩, y0, y1, _⟩ := hSw; (try simp only [List.getElem_toArray, List.getElem_cons_succ, List.getElem_cons_zero]); go_simp; (try with_reducible rfl)))
        try simp only [List.getElem_toArray, List.getElem_cons_succ, List.getElem_cons_zero, Act.put, List.setIfInBounds_toArray, List.set_cons_zero, List.set_cons_succ]
        (refine wpAnyH_take (i := 4) (oi := _) (v := ?_) rfl (by kernel_rfl) (by kernel_rfl) (by kernel_rfl) (fun _ _ _ h => h) (Or.inl ⟨by rfl, ?_⟩) (by assumption) ?_; rotate_left; (intro wS hSw; obtain ⟨⟨⟨x0, x1, x2, x3, _⟩, _⟩, y0, y1, _⟩ := hSw; (try simp only [List.getElem_toArray, List.getElem_cons_succ, List.getElem_cons_zero]); go_simp; (try with_reducible rfl)))
        try simp only [List.getElem_toArray, List.getElem_cons_succ, List.getElem_cons_zero, Act.put, List.setIfInBounds_toArray, List.set_cons_zero, List.set_cons_succ]
        (refine wpAnyH_take (i := 5) (oi := _) (v := ?_) rfl (by kernel_rfl) (by kernel_rfl) (by kernel_rfl) (fun _ _ _ h => h) (Or.inl ⟨by rfl, ?_⟩) (by assumption) ?_; rotate_left; (intro wS hSw; obtain ⟨⟨⟨x0, x1, x2, x3, _⟩, _⟩, y0, y1, _⟩ := hSw; (try simp only [List.getElem_toArray, List.getElem_cons_succ, List.getElem_cons_zero]); go_simp; (try with_reducible rfl)))
        try simp only [List.getElem_toArray, List.getElem_cons_succ, List.getElem_cons_zero, Act.put, List.setIfInBounds_toArray, List.set_cons_zero, List.set_cons_succ]
        (refine wpAnyH_take (i := 6) (oi := _) (v := ?_) rfl (by kernel_rfl) (by kernel_rfl) (by kernel_rfl) (fun _ _ _ h => h) (Or.inl ⟨by rfl, ?_⟩) (by assumption) ?_; rotate_left; (intro wS hSw; obtain ⟨⟨⟨x0, x1, x2, x3, _⟩, _⟩, y0, y1, _⟩ := hSw; (try simp only [List.getElem_toArray, List.getElem_cons_succ, List.getElem_cons_zero]); go_simp; (try with_reducible rfl)))
        try simp only [List.getElem_toArray, List.getElem_cons_succ, List.getElem_cons_zero, Act.put, List.setIfInBounds_toArray, List.set_cons_zero, List.set_cons_succ]
        (refine wpAnyH_take (i := 7) (oi := _) (v := ?_) rfl (by kernel_rfl) (by kernel_rfl) (by kernel_rfl) (fun _ _ _ h => h) (Or.inl ⟨by rfl, ?_⟩) (by assumption) ?_; rotate_left; (intro wS hSw; obtain ⟨⟨⟨x0, x1, x2, x3, _⟩, _⟩, y0, y1, _⟩ := hSw; (try simp only [List.getElem_toArray, List.getElem_cons_succ, List.getElem_cons_zero]); go_simp; (try with_reducible rfl)))
        try simp only [List.getElem_toArray, List.getElem_cons_succ, List.getElem_cons_zero, Act.put, List.setIfInBounds_toArray, List.set_cons_zero, List.set_cons_succ]
        (refine wpAnyH_take (i := 8) (oi := _) (v := ?_) rfl (by kernel_rfl) (by kernel_rfl) (by kernel_rfl) (fun _ _ _ h => h) (Or.inl ⟨by rfl, ?_⟩) (by assumption) ?_; rotate_left; (intro wS hSw; obtain ⟨⟨⟨x0, x1, x2, x3, _⟩, _⟩, y0, y1, _⟩ := hSw; (try simp only [List.getElem_toArray, List.getElem_cons_succ, List.getElem_cons_zero]); go_simp; (try with_reducible rfl)))
        try simp only [List.getElem_toArray, List.getElem_cons_succ, List.getElem_cons_zero, Act.put, List.setIfInBounds_toArray, List.set_cons_zero, List.set_cons_succ]
        (refine wpAnyH_take (i := 9) (oi := _) (v := ?_) rfl (by kernel_rfl) (by kernel_rfl) (by kernel_rfl) (fun _ _ _ h => h) (Or.inl ⟨by rfl, ?_⟩) (by assumption) ?_; rotate_left; (intro wS hSw; obtain ⟨⟨⟨x0, x1, x2, x3, _⟩, _⟩, y0, y1, _⟩ := hSw; (try simp only [List.getElem_toArray, List.getElem_cons_succ, List.getElem_cons_zero]); go_simp; (try with_reducible rfl)))
        try simp only [List.getElem_toArray, List.getElem_cons_succ, List.getElem_cons_zero, Act.put, List.setIfInBounds_toArray, List.set_cons_zero, List.set_cons_succ]
        (refine wpAnyH_take (i := 10) (oi := _) (v := ?_) rfl (by kernel_rfl) (by kernel_rfl) (by kernel_rfl) (fun _ _ _ h => h) (Or.inl ⟨by rfl, ?_⟩) (by assumption) ?_; rotate_left; (intro wS hSw; obtain ⟨⟨⟨x0, x1, x2, x3, _⟩, _⟩, y0, y1, _⟩ := hSw; (try simp only [List.getElem_toArray, List.getElem_cons_succ, List.getElem_cons_zero]); go_simp; (try with_reducible rfl)))
        try simp only [List.getElem_toArray, List.getElem_cons_succ, List.getElem_cons_zero, Act.put, List.setIfInBounds_toArray, List.set_cons_zero, List.set_cons_succ]
        (refine wpAnyH_take (i := 11) (oi := _) (v := ?_) rfl (by kernel_rfl) (by kernel_rfl) (by kernel_rfl) (fun _ _ _ h => h) (Or.inl ⟨by rfl, ?_⟩) (by assumption) ?_; rotate_left; (intro wS hSw; obtain ⟨⟨⟨x0, x1, x2, x3, _⟩, _⟩, y0, y1, _⟩ := hSw; (try simp only [List.getElem_toArray, List.getElem_cons_succ, List.getElem_cons_zero]); go_simp; (try with_reducible rfl)))
        try simp only [List.getElem_toArray, List.getElem_cons_succ, List.getElem_cons_zero, Act.put, List.setIfInBounds_toArray, List.set_cons_zero, List.set_cons_succ]
        (refine wpAnyH_take (i := 12) (oi := _) (v := ?_) rfl (by kernel_rfl) (by kernel_rfl) (by kernel_rfl) (fun _ _ _ h => h) (Or.inl ⟨by rfl, ?_⟩) (by assumption) ?_; rotate_left; (intro wS hSw; obtain ⟨⟨⟨x0, x1, x2, x3, _⟩, _⟩, y0, y1, _⟩ := hSw; (try simp only [List.getElem_toArray, List.getElem_cons_succ, List.getElem_cons_zero]); go_simp; (try with_reducible rfl)))
        try simp only [List.getElem_toArray, List.getElem_cons_succ, List.getElem_cons_zero, Act.put, List.setIfInBounds_toArray, List.set_cons_zero, List.set_cons_succ]
        (refine wpAnyH_ready (rs := [13]) (by kernel_rfl) (by simp) ?_; refine AllReadyH.cons (o := _) rfl (fun K hK => ?_) AllReadyH.nil; (try simp only [List.getElem_toArray, List.getElem_cons_succ, List.getElem_cons_zero]); go_simp; go_at_call 32; refine (CT.out _ ((Below.refl _ wr).drew)).mono ?_; rintro e w4 ⟨rfl, hb4⟩; have hHeld := hHeld.next hb4; have HB4 := hid (((Below.refl wr.heap.size wr).drew).trans hb4); have HK4 := hid hHeld; have hrow4 : w4.ownsRow (w.heap.size + 1) 58 1 (.slice Ar L.length cr) L.length (L.map rowV) := row_under hrow.out.1 HB4.out; have HRow4 := hid hrow4; have HC3 : Hid (L.length + 1 ≤ maxLen) := (by unfold maxLen; exact hid (by have := HLL.out; omega)); have HC4 : Hid ((L.length + 1) * 24 ≤ 140737488355328) := hid (by have := HLL.out; omega); clear hb4 hrow4; go_wp2_with fail; refine hK.out _ _ hHeld (fun hHeld => ?_); clear hK K)
        try simp only [List.getElem_toArray, List.getElem_cons_succ, List.getElem_cons_zero, Act.put, List.setIfInBounds_toArray, List.set_cons_zero, List.set_cons_succ]
        (refine wpAnyH_ready (rs := [14]) (by kernel_rfl) (by simp) ?_; refine AllReadyH.cons (o := _) rfl (fun K hK => ?_) AllReadyH.nil; (try simp only [List.getElem_toArray, List.getElem_cons_succ, List.getElem_cons_zero]); go_simp; go_wp2_with fail; refine hK.out _ _ (hHeld.next ((Below.refl _ _).alloc (Nat.le_refl _) _)) (fun hHeld => ?_); clear hK K)
        try simp only [List.getElem_toArray, List.getElem_cons_succ, List.getElem_cons_zero, Act.put, List.setIfInBounds_toArray, List.set_cons_zero, List.set_cons_succ]
        (refine wpAnyH_ready (rs := [15]) (by kernel_rfl) (by simp) ?_; refine AllReadyH.cons (o := _) rfl (fun K hK => ?_) AllReadyH.nil; (try simp only [List.getElem_toArray, List.getElem_cons_succ, List.getElem_cons_zero]); go_simp; go_wp2_with fail; refine hK.out _ _ (hHeld.next ((Below.refl _ _).alloc (Nat.le_refl _) _)) (fun hHeld => ?_); clear hK K)
        try simp only [List.getElem_toArray, List.getElem_cons_succ, List.getElem_cons_zero, Act.put, List.setIfInBounds_toArray, List.set_cons_zero, List.set_cons_succ]
        (refine wpAnyH_ready (rs := [16]) (by kernel_rfl) (by simp) ?_; refine AllReadyH.cons (o := _) rfl (fun K hK => ?_) AllReadyH.nil; (try simp only [List.getElem_toArray, List.getElem_cons_succ, List.getElem_cons_zero]); refine step_append_lies (a := { tmps := _, defers := _ }) _ (by rfl) _ _ _ (by rfl) (w.heap.size + 1) 58 iS (.slice none 0 0) 1 24 Tryz.underlying27 hiS hzS hsS hbS rfl (by decide) (.slice Ar L.length cr) L.length (L.map rowV) (by rfl) (World.ownsRow.alloc (World.ownsRow.alloc HRow4.out _) _) ⟨w4.heap.size + 1, 0, none⟩ 1 1 [.slice (some ⟨w4.heap.size, 0, none⟩) 2 2] (by rfl) (by rfl) (by have := one_new (w4.alloc (.cells #[.string X1, .string X5] 9)) (.slice (some ⟨w4.heap.size, 0, none⟩) 2 2) 58; simpa using this) (one_slice _ _ _) (by decide) HC3.out HC4.out (by have := HK4.out.g.x.lt; simp; omega) (w4.heap.size + 1 + 1) (by simp) ?_; intro g7 cap7 w7 hown7 hgrow7 hat7 hlt7; have hHeld := hHeld.grown hgrow7 (fun k hk => (World.ownsRow.lt HRow4.out k hk).1); have HOWN := hid hown7; have HGR := hid hgrow7; have HAT := hid hat7; clear hown7 hgrow7 hat7; refine hK.out _ _ hHeld (fun hHeld => ?_); clear hK K)
        try simp only [Act.put, List.setIfInBounds_toArray, List.set_cons_zero, List.set_cons_succ]
        (refine wpAnyH_take (i := 17) (oi := _) (v := ?_) rfl (by kernel_rfl) (by kernel_rfl) (by kernel_rfl) (fun _ _ _ h => h) (Or.inl ⟨by rfl, ?_⟩) (by assumption) ?_; rotate_left; (intro wS hSw; obtain ⟨⟨⟨x0, x1, x2, x3, _⟩, _⟩, y0, y1, _⟩ := hSw; (try simp only [List.getElem_toArray, List.getElem_cons_succ, List.getElem_cons_zero]); go_simp; (try with_reducible rfl)))
        try simp only [List.getElem_toArray, List.getElem_cons_succ, List.getElem_cons_zero, Act.put, List.setIfInBounds_toArray, List.set_cons_zero, List.set_cons_succ]
        refine wpAnyH_done (by kernel_rfl) ?_ _
        have hin : S3.StrRow (w4.alloc (.cells #[.string X1, .string X5] 9)) w4.heap.size (.slice (some ⟨w4.heap.size, 0, none⟩) RW.length 2) RW := by
          unfold S3.StrRow
          rw [HRV.out, HR5.out]
          exact World.ownsRow_lit w4 #[.string X1, .string X5] 2 (Nat.le_refl _) (by decide) rfl
        have hown7 := HOWN.out
        rw [show (2 : Nat) = RW.length from HR5.out.symm] at hown7
        have hsn := RowsF.snoc (c := 2) hrowF.out (by have := HK4.out.g.x.lt; omega) HB4.out ((Below.refl w4.heap.size w4).alloc (Nat.le_refl _) _) hin ((Below.refl _ (w4.alloc (.cells #[.string X1, .string X5] 9))).alloc (Nat.le_refl _) _) (by rw [HR5.out] at hown7 ⊢; exact hown7) HGR.out (by
          rcases HAT.out with h | h
          · exact .inl h.symm
          · exact .inr (by rw [h]; simp [Value.ownBlock]))
        have HSN := hid hsn
        have HK7 := hid hHeld.g
        have HL2 : Hid ((L ++ [((RW, some ⟨w4.heap.size, 0, none⟩, 2) : RowA)]).map (·.1) = (l.take (i + 1)).map (rowL d s b m n)) := hid (by rw [HST.out, List.map_append]; rfl)
        clear hin hown7 hsn hHeld
        go_wp2
        go_roundw
        case rel => exact ⟨i + 1, L ++ [((RW, some ⟨w4.heap.size, 0, none⟩, 2) : RowA)], by go_num, by omega, HL2, HSN, HK7⟩
        case measure => simp [RowKit.intOf]; omega
      · have hltz : ¬ (i : Int) < (l.length : Int) := by omega
        have hL2 : Hid (L.map (·.1) = l.map (rowL d s b m n)) := hid (by rw [hL.out, List.take_of_length_le (by omega)])
        go_wp2
        go_ret2
        exact ⟨⟨_, L, hL2.out, rfl, hrowF.out.low (by omega)⟩, hKK.out.b⟩
  · have hR1 : (R != 0) = true := by simpa using hR0
    have hR2 : (R == 0) = false := by simpa using hR0
    rw [if_pos hR0]
    clear hR
    go_enter Tryz.func9, Tryz.ntmps9
    go_wp2_with fail
    refine (CV.out _ HK.out.b).mono ?_
    rintro e w1 ⟨rfl, hb⟩
    have HK1 := hid (HK.out.next hb)
    clear hb HK CV
    go_wp2
    go_ret2
    exact ⟨⟨_, [], rfl, rfl, RowsF.nil _ _⟩, HK1.out.b⟩
theorem own_kept {w w' : World} {B : Nat} {e : TypeId} {z n : Nat} {v : Value} {xs : List Value} (h : w.ownsRow B e z v n xs) (hk : ∀ b, v.ownBlock = some b → w'.heap[b]? = w.heap[b]?) : w'.ownsRow B e z v n xs := by
  obtain ⟨h1, h2⟩ := h
  refine ⟨h1, ?_⟩
  rcases h2 with h2 | ⟨g, cap, cur, hv, hB, hg, r⟩
  · exact .inl h2
  · exact .inr ⟨g, cap, cur, hv, hB, (hk g (by rw [hv]; rfl)).trans hg, r⟩
theorem RowsF.kept {w w' : World} {B : Nat} {v : Value} {L : List RowA} (h : RowsF w B v L) (hk : ∀ b, B ≤ b → b < w.heap.size → w'.heap[b]? = w.heap[b]?) (hz : w.heap.size ≤ w'.heap.size) : RowsF w' B v L := by
  refine ⟨⟨own_kept h.1.1 (fun b hb => by have := World.ownsRow.lt h.1.1 b hb; exact hk b this.1 this.2), fun p hp => ?_⟩, fun p hp hne b off hA j => ?_⟩
  · obtain ⟨f1, f2, f3⟩ := h.1.2 p hp
    exact ⟨(f1.kept (fun b hb => hk b hb.1 hb.2.1)).mono (fun b hb => ⟨hb.1, by omega, hb.2.2⟩), f2, f3⟩
  · obtain ⟨b', off', hA', ⟨k1, k2, k3⟩, hf, _⟩ := h.at_ hp hne
    rw [hA] at hA'
    injection hA' with hA'
    injection hA' with e1 e2
    subst e1
    exact (World.frozen?_of_block (a := ⟨b, j, none⟩) (hk b k1 k2)).trans (hf j)
theorem strs_store {w : World} {P : Nat → Prop} {A : Option Addr} {l : List Str} (h : S3.StrsIn w P A l) (b o : Nat) (X : Str) : ∃ l' : List Str, l'.length = l.length ∧ (∀ x ∈ l', x ∈ l ∨ x = X) ∧ S3.StrsIn (w.setCell ⟨b, o, none⟩ (.string (ba X))) P A l' := by
  rcases h with rfl | ⟨b', off', rfl, hP, hc⟩
  · exact ⟨[], rfl, fun x hx => by simp at hx, .inl rfl⟩
  · refine ⟨l.mapIdx (fun i s => if b' = b ∧ off' + i = o then X else s), by simp, fun x hx => ?_, .inr ⟨b', off', rfl, hP, fun j s hj => ?_⟩⟩
    · obtain ⟨i, hi, rfl⟩ := List.mem_mapIdx.1 hx
      split
      · exact .inr rfl
      · exact .inl (List.getElem_mem hi)
    · rw [List.getElem?_mapIdx] at hj
      obtain ⟨s0, hs0, rfl⟩ := Option.map_eq_some_iff.1 hj
      have hcj := hc j s0 hs0
      by_cases e : b' = b ∧ off' + j = o
      · obtain ⟨rfl, rfl⟩ := e
        rw [if_pos ⟨rfl, rfl⟩]
        exact World.cell?_setCell_same' w ⟨b', off' + j, none⟩ _ (by rw [hcj]; rfl)
      · rw [if_neg e]
        refine Eq.trans ?_ hcj
        apply World.cell?_setCell_other
        intro e2
        injection e2 with e3 e4
        exact e ⟨e3.symm, e4.symm⟩
theorem rows_store {w w' : World} {P : Nat → Prop} (X : Str) (hw : ∀ A l, S3.StrsIn w P A l → ∃ l' : List Str, l'.length = l.length ∧ (∀ x ∈ l', x ∈ l ∨ x = X) ∧ S3.StrsIn w' P A l') : ∀ L : List RowA, (∀ p ∈ L, S3.StrsIn w P p.2.1 p.1) →
    ∃ L' : List RowA, L'.length = L.length ∧ L'.map rowV = L.map rowV ∧ ∀ p ∈ L', ∃ q ∈ L, p.2 = q.2 ∧ p.1.length = q.1.length ∧ (∀ x ∈ p.1, x ∈ q.1 ∨ x = X) ∧ S3.StrsIn w' P p.2.1 p.1
  | [], _ => ⟨[], rfl, rfl, fun p hp => by simp at hp⟩
  | q :: r, h => by
    obtain ⟨L', h1, h2, h3⟩ := rows_store X hw r (fun p hp => h p (by simp [hp]))
    obtain ⟨l', k1, k2, k3⟩ := hw _ _ (h q (by simp))
    refine ⟨(l', q.2) :: L', by simp [h1], ?_, fun p hp => ?_⟩
    · rw [List.map_cons, List.map_cons, h2]
      congr 1
      unfold rowV
      rw [k1]
    · rcases List.mem_cons.1 hp with rfl | hp
      · exact ⟨q, by simp, rfl, k1, k2, k3⟩
      · obtain ⟨q', hq', r⟩ := h3 p hp
        exact ⟨q', by simp [hq'], r⟩
structure MS (w5 : World) (g c : Nat) (A : Option Addr) (L : List Int) (vf : Value) (Lf : List RowA) (w : World) : Prop where
  e : ∃ k, DE w5 g c A L k w
  f : RowsF w w5.heap.size vf Lf
  s : ∀ p ∈ Lf, p.1.length = 2 ∧ ∀ x ∈ p.1, x.length ≤ 2000
  g0 : g < w5.heap.size
section
variable {w5 w w' : World} {g c : Nat} {A : Option Addr} {L : List Int} {vf vf' : Value} {Lf : List RowA}
theorem MS.played {k' : Nat} (h : MS w5 g c A L vf Lf w) (he : DE w g c A L k' w') : MS w5 g c A L vf Lf w' := by
  obtain ⟨k, h0⟩ := h.e
  have hg := h.g0
  exact ⟨⟨k', h0.trans he⟩, h.f.kept (fun b h1 h2 => he.p.block b h2 (by omega)) he.p.size, h.s, hg⟩
theorem MS.next (h : MS w5 g c A L vf Lf w) (k : Below w.heap.size w w') : MS w5 g c A L vf Lf w' := by
  obtain ⟨j, h0⟩ := h.e
  exact ⟨⟨j, h0.below (k.mono h0.p.size) h.g0⟩, h.f.kept (fun b h1 h2 => k.block b h2) k.size, h.s, h.g0⟩
theorem MS.dice (h : MS w5 g c A L vf Lf w) : ∃ k, DiceAt w g A L c k := by
  obtain ⟨k, h0⟩ := h.e
  exact ⟨k, h0.d⟩
theorem MS.store {p : RowA} {b off : Nat} (h : MS w5 g c A L vf Lf w) (hp : p ∈ Lf) (hA : p.2.1 = some ⟨b, off, none⟩) (o : Nat) (X : Str) (hX : X.length ≤ 2000) :
    ∃ Lf', Lf'.length = Lf.length ∧ MS w5 g c A L vf Lf' (w.setCell ⟨b, o, none⟩ (.string (ba X))) := by
  obtain ⟨j, h0⟩ := h.e
  have hg := h.g0
  obtain ⟨b', off', hA', ⟨k1, k2, k3⟩, _, _⟩ := h.f.at_ hp (fun e => by have := (h.s p hp).1; rw [e] at this; simp at this)
  rw [hA] at hA'
  injection hA' with hA'
  injection hA' with e1 e2
  subst e1
  have hz : (w.setCell ⟨b, o, none⟩ (.string (ba X))).heap.size = w.heap.size := by simp [World.setCell]
  obtain ⟨L', l1, l2, l3⟩ := rows_store (P := fun x => w5.heap.size ≤ x ∧ x < w.heap.size ∧ vf.ownBlock ≠ some x) X (fun A l hs => strs_store hs b o X) Lf (fun p hp => (h.f.1.2 p hp).1)
  refine ⟨L', l1, ⟨j, h0.set _ _ _ k1 (by omega)⟩, ⟨⟨?_, fun q hq => ?_⟩, fun q hq hne b2 off2 hA2 j2 => ?_⟩, fun q hq => ?_, hg⟩
  · rw [l1, l2]
    exact own_kept h.f.1.1 (fun x hx => Below.heap_setCell w ⟨b, o, none⟩ _ x (fun e => k3 (by rw [hx]; exact congrArg some e)))
  · obtain ⟨q0, hq0, m1, m2, m3, m4⟩ := l3 q hq
    obtain ⟨_, f2, f3⟩ := h.f.1.2 q0 hq0
    exact ⟨m4.mono (fun x hx => ⟨hx.1, by rw [hz]; exact hx.2.1, hx.2.2⟩), by rw [m2, m1]; exact f2, by rw [m1]; exact f3⟩
  · obtain ⟨q0, hq0, m1, m2, m3, m4⟩ := l3 q hq
    rw [World.frozen?_setCell]
    exact h.f.2 q0 hq0 (fun e => hne (List.eq_nil_of_length_eq_zero (by rw [m2, e]; rfl))) b2 off2 (by rw [← m1]; exact hA2) j2
  · obtain ⟨q0, hq0, m1, m2, m3, m4⟩ := l3 q hq
    refine ⟨m2.trans (h.s q0 hq0).1, fun x hx => ?_⟩
    rcases m3 x hx with hx | rfl
    · exact (h.s q0 hq0).2 x hx
    · exact hX
end
theorem RowsRow.app {w3 w4 : World} {B : Nat} {v v' : Value} {L M : List RowA} (h : RowsRow w3 B v L) (hM : ∀ p ∈ M, S3.StrsIn w3 (fun b => B ≤ b ∧ b < w3.heap.size ∧ v.ownBlock ≠ some b) p.2.1 p.1 ∧ p.1.length ≤ p.2.2 ∧ p.2.2 ≤ 9223372036854775807)
    (hown' : w4.ownsRow B 58 1 v' (L.length + M.length) (L.map rowV ++ M.map rowV)) (hg : w3.grownBy w4 v.ownBlock) (hat : v'.ownBlock = v.ownBlock ∨ v'.ownBlock = some w3.heap.size) : RowsRow w4 B v' (L ++ M) := by
  have hs := hg.size
  refine ⟨by rw [List.map_append, List.length_append]; exact hown', fun p hp => ?_⟩
  have hp' : S3.StrsIn w3 (fun b => B ≤ b ∧ b < w3.heap.size ∧ v.ownBlock ≠ some b) p.2.1 p.1 ∧ p.1.length ≤ p.2.2 ∧ p.2.2 ≤ 9223372036854775807 := by
    rcases List.mem_append.1 hp with hp | hp
    · exact h.2 p hp
    · exact hM p hp
  obtain ⟨f1, f2, f3⟩ := hp'
  refine ⟨S3.StrsIn.mono (f1.kept (w' := w4) (fun b hb => hg.block b hb.2.1 (fun e => hb.2.2 e.symm))) (fun b hb => ⟨hb.1, by omega, fun e => ?_⟩), f2, f3⟩
  rcases hat with ha | ha
  · rw [ha] at e; exact hb.2.2 e
  · rw [ha] at e
    injection e with e
    have := hb.2.1
    omega
structure MT (w5 : World) (g c : Nat) (A : Option Addr) (L : List Int) (Af : Option Addr) (rows : List (List Str)) (w : World) : Prop where
  e : ∃ k, DE w5 g c A L k w
  f : RowsIn w (fun b => w5.heap.size ≤ b ∧ b < w.heap.size) Af rows
  s : ∀ r ∈ rows, r.length ≤ 2 ∧ ∀ x ∈ r, x.length ≤ 2000
  n : rows.length ≤ 1000
  g0 : g < w5.heap.size
section
variable {w5 w w' : World} {g c : Nat} {A Af : Option Addr} {L : List Int} {rows : List (List Str)}
theorem MT.played {k' : Nat} (h : MT w5 g c A L Af rows w) (he : DE w g c A L k' w') : MT w5 g c A L Af rows w' := by
  obtain ⟨k, h0⟩ := h.e
  have hg := h.g0
  have hz := he.p.size
  exact ⟨⟨k', h0.trans he⟩, (h.f.kept (fun b hb => he.p.block b hb.2 (by omega))).mono (fun b hb => ⟨hb.1, by omega⟩), h.s, h.n, hg⟩
theorem MT.next (h : MT w5 g c A L Af rows w) (k : Below w.heap.size w w') : MT w5 g c A L Af rows w' := by
  obtain ⟨j, h0⟩ := h.e
  have hz := k.size
  exact ⟨⟨j, h0.below (k.mono h0.p.size) h.g0⟩, (h.f.kept (fun b hb => k.block b hb.2)).mono (fun b hb => ⟨hb.1, by omega⟩), h.s, h.n, h.g0⟩
theorem MT.dice (h : MT w5 g c A L Af rows w) : ∃ k, DiceAt w g A L c k := by
  obtain ⟨k, h0⟩ := h.e
  exact ⟨k, h0.d⟩
end
theorem MS.toT {w5 w : World} {g c : Nat} {A : Option Addr} {L : List Int} {Af : Option Addr} {nf cf : Nat} {Lf : List RowA} (h : MS w5 g c A L (.slice Af nf cf) Lf w) (hn : Lf.length ≤ 100) : nf = Lf.length ∧ MT w5 g c A L Af (Lf.map (·.1)) w := by
  obtain ⟨A6, c6, hv, _, _, hri⟩ := h.f.1.rowsIn
  injection hv with e1 e2 e3
  subst e1
  exact ⟨e2, h.e, hri, fun r hr => by obtain ⟨p, hp, rfl⟩ := List.mem_map.1 hr; exact ⟨Nat.le_of_eq (h.s p hp).1, (h.s p hp).2⟩, by rw [List.length_map]; omega, h.g0⟩
theorem MS.app {w5 w w3 w4 : World} {g c : Nat} {A : Option Addr} {L : List Int} {vf v' : Value} {Lf : List RowA} {p : RowA} (h : MS w5 g c A L vf Lf w) (hn : Lf.length ≤ 100) (hp : p ∈ Lf)
    (hw : w3 = (w.alloc (.cells #[.string ⟨#[120]⟩] 9)).alloc (.cells #[rowV p, .slice (some ⟨w.heap.size, 0, none⟩) 1 1] 58)) (hown : w4.ownsRow w5.heap.size 58 1 v' (Lf.length + 2) (Lf.map rowV ++ [rowV p, .slice (some ⟨w.heap.size, 0, none⟩) 1 1]))
    (hg : w3.grownBy w4 vf.ownBlock) (hat : v'.ownBlock = vf.ownBlock ∨ v'.ownBlock = some w3.heap.size) : ∃ (Af : Option Addr) (rows : List (List Str)) (cf : Nat), v' = .slice Af rows.length cf ∧ MT w5 g c A L Af rows w4 := by
  have h1 := h.next ((Below.refl w.heap.size w).alloc (Nat.le_refl _) (.cells #[.string ⟨#[120]⟩] 9))
  have hx := heap_alloc_new w (.cells #[.string ⟨#[120]⟩] 9)
  have hz1 : (w.alloc (.cells #[.string ⟨#[120]⟩] 9)).heap.size = w.heap.size + 1 := by simp
  have hvl : ∀ b, vf.ownBlock = some b → b < w.heap.size := fun b hb => (World.ownsRow.lt h.f.1.1 b hb).2
  have hz5 : w5.heap.size ≤ w.heap.size := by obtain ⟨_, h0⟩ := h.e; exact h0.p.size
  generalize w.alloc (.cells #[.string ⟨#[120]⟩] 9) = w2 at h1 hx hz1 hw
  have h2 := h1.next ((Below.refl w2.heap.size w2).alloc (Nat.le_refl _) (.cells #[rowV p, .slice (some ⟨w.heap.size, 0, none⟩) 1 1] 58))
  have hx3 := (Below.heap_alloc w2 (.cells #[rowV p, .slice (some ⟨w.heap.size, 0, none⟩) 1 1] 58) w.heap.size (by omega)).trans hx
  have hz3 : w3.heap.size = w.heap.size + 2 := by rw [hw]; simp [hz1]
  rw [← hw] at h2 hx3
  have hxs : S3.StrsIn w3 (fun b => w5.heap.size ≤ b ∧ b < w3.heap.size ∧ vf.ownBlock ≠ some b) (some ⟨w.heap.size, 0, none⟩) [[120]] := .inr ⟨w.heap.size, 0, rfl, ⟨hz5, by omega, fun e => by have := hvl _ e; omega⟩, fun j s hj => by
    match j, hj with
    | 0, hj => obtain rfl : [120] = s := by simpa using hj
               rw [Lib.cell_of_heap hx3]; rfl
    | j + 1, hj => simp at hj⟩
  have happ : RowsRow w4 w5.heap.size v' (Lf ++ [p, ([[120]], some ⟨w.heap.size, 0, none⟩, 1)]) := RowsRow.app h2.f.1 (fun q hq => by
    simp only [List.mem_cons, List.not_mem_nil, or_false] at hq
    rcases hq with rfl | rfl
    · exact h2.f.1.2 q hp
    · exact ⟨hxs, Nat.le_refl _, by show (1 : Nat) ≤ _; omega⟩) hown hg hat
  obtain ⟨A6, c6, rfl, _, _, hri⟩ := happ.rowsIn
  obtain ⟨j, h0⟩ := h2.e
  refine ⟨A6, _, c6, by rw [List.length_map], ⟨j, ?_⟩, hri, fun r hr => ?_, by simp; omega, h.g0⟩
  · exact h0.below ((Below.refl _ w3).grown hg (by omega) (fun k hk => (World.ownsRow.lt h2.f.1.1 k hk).1)) h.g0
  · obtain ⟨q, hq, rfl⟩ := List.mem_map.1 hr
    rcases List.mem_append.1 hq with hq | hq
    · exact ⟨Nat.le_of_eq (h.s q hq).1, (h.s q hq).2⟩
    · simp only [List.mem_cons, List.not_mem_nil, or_false] at hq
      rcases hq with rfl | rfl
      · exact ⟨Nat.le_of_eq (h.s q hp).1, (h.s q hp).2⟩
      · exact ⟨by simp, fun x hx => by simp at hx; subst hx; decide⟩
structure VK9 (w0 w2 : World) (d s b m : Int) (t : TimeD) (w : World) : Prop where
  g : Box4 w w0.heap.size d s b m
  t : Box4 w (w0.heap.size + 1) t.1 t.2.1 t.2.2.1 t.2.2.2
  b : Below w2.heap.size w2 w
  a : Below w0.heap.size w0 w
theorem VK9.next {w0 w2 w w' : World} {d s b m : Int} {t : TimeD} (h : VK9 w0 w2 d s b m t w) (k : Below w.heap.size w w') : VK9 w0 w2 d s b m t w' :=
  ⟨h.g.next k h.g.lt, h.t.next k h.t.lt, h.b.trans (k.mono h.b.size), h.a.trans (k.mono h.a.size)⟩
structure VR9 (w0 w2 : World) (d s b m : Int) (t : TimeD) (fb o : Nat) (v0 v1 : Value) (w : World) : Prop where
  v : VK9 w0 w2 d s b m t w
  c0 : w.cell? ⟨fb, o, none⟩ = some v0
  c1 : w.cell? ⟨fb, o + 1, none⟩ = some v1
  z : fb < w0.heap.size
theorem VR9.next {w0 w2 w w' : World} {d s b m : Int} {t : TimeD} {fb o : Nat} {v0 v1 : Value} (h : VR9 w0 w2 d s b m t fb o v0 v1 w) (k : Below w.heap.size w w') : VR9 w0 w2 d s b m t fb o v0 v1 w' := by
  have e := k.block fb (Nat.lt_of_lt_of_le h.z h.v.a.size)
  exact ⟨h.v.next k, (World.cell?_of_block (w := w) e).trans h.c0, (World.cell?_of_block (w := w) e).trans h.c1, h.z⟩
set_option maxHeartbeats 16000000 in
set_option maxRecDepth 100000 in
theorem lvalidLaw_any (d s b m : Int) (t : TimeD) (ht : t.2.2.1 ≤ 9223372036854775807) (A : Option Addr) (l : List LectD) (c : Nat) (w : World) (h : LectsIn w (fun k => k < w.heap.size) A l) (hlc : l.length ≤ 9223372036854775807) (hE : Env7 w) (hR : REnv7 w)
    (hA : ∀ w', Below w.heap.size w w' → Calls Tryz.prog 12 #[] w' (Says (.bool true) w')) :
    Calls Tryz.prog 3 #[.slice A l.length c, .agg #[.int .i64 d, .int .i64 s, .int .i64 b, .int .i64 m], timeV t] w fun e w' => e = .returned (.bool true) ∧ Below w.heap.size w w' := by
  obtain ⟨t0, t1, t2, n⟩ := t
  dsimp only at ht
  unfold timeV
  dsimp only
  have hG := Box4.new w d s b m 24
  have hb1 := (Below.refl w.heap.size w).alloc (Nat.le_refl _) (.cells #[.int .i64 d, .int .i64 s, .int .i64 b, .int .i64 m] 24)
  have hs1 : (w.alloc (.cells #[.int .i64 d, .int .i64 s, .int .i64 b, .int .i64 m] 24)).heap.size = w.heap.size + 1 := by simp
  obtain ⟨w1, hw1⟩ : ∃ w1, w.alloc (.cells #[.int .i64 d, .int .i64 s, .int .i64 b, .int .i64 m] 24) = w1 := ⟨_, rfl⟩
  rw [hw1] at hG hb1 hs1
  have hT := Box4.new w1 t0 t1 t2 n 26
  have hb2 := (Below.refl w1.heap.size w1).alloc (Nat.le_refl _) (.cells #[.int .i64 t0, .int .i64 t1, .int .i64 t2, .int .i64 n] 26)
  obtain ⟨wz, hw2⟩ : ∃ wz, w1.alloc (.cells #[.int .i64 t0, .int .i64 t1, .int .i64 t2, .int .i64 n] 26) = wz := ⟨_, rfl⟩
  rw [hw2] at hT hb2
  rw [hs1] at hT
  have hk : VK9 w w d s b m (t0, t1, t2, n) wz := ⟨hG.next hb2 hG.lt, hT, hb1.trans (hb2.mono (by omega)), hb1.trans (hb2.mono (by omega))⟩
  have HK := hid hk
  have hin : ∀ w', Below w.heap.size w w' → LectsIn w' (fun k => k < w'.heap.size) A l := fun w' hb => (h.below hb).mono (fun k hk => Nat.lt_of_lt_of_le hk hb.size)
  have cW := fun w' (hb : Below w.heap.size w w') => lwrite_any d s b m n A l c w' (hin w' hb) (hE.below hb (Nat.le_refl _))
  have cR := fun w' (hb : Below w.heap.size w w') => rlwrite_any d s b m n A l c w' (hin w' hb) (hR.below hb (Nat.le_refl _))
  have cV := fun w' (hb : Below w.heap.size w w') => lvalid_any d s b m n A l c w' (hin w' hb)
  have cQ := fun w' (hb : Below w.heap.size w w') => rlvalid_any d s b m n A l c w' (hin w' hb)
  unfold WriteOut at cW cR
  unfold Says at cV cQ hA
  obtain ⟨⟨RL, RE⟩, hO⟩ : ∃ O, writeL d s b m n l = O := ⟨_, rfl⟩
  obtain ⟨V, hV⟩ : ∃ V, validL d s b m n l = V := ⟨_, rfl⟩
  rw [hO] at cW cR
  rw [hV] at cV cQ
  have CW := hid cW
  have CR := hid cR
  have CV := hid cV
  have CQ := hid cQ
  have CA := hid hA
  have HH := hid h
  have HW1 := hid hw1
  have HW2 := hid hw2
  clear hk h hE hR hin cW cR cV cQ hA hO hV hG hb1 hs1 hw1 hT hb2 hw2
  go_enter Tryz.func3, Tryz.ntmps3
  go_wp2_with fail
  (try rw [HW1.out])
  (try rw [HW2.out])
  refine (CW.out _ HK.out.a).mono ?_
  rintro e wa ⟨⟨v1, L1, hL1, rfl, hr1⟩, hba⟩
  have HK1 := hid (HK.out.next hba)
  have HR1 := hid hr1
  clear HK hba hr1
  obtain ⟨g0, g1, g2, g3, _⟩ := HK1.out.g
  go_wp2_with fail
  refine (CR.out _ HK1.out.a).mono ?_
  rintro e w2 ⟨⟨v2, L2, hL2, rfl, hr2⟩, hb2⟩
  obtain ⟨A1, c1, rfl, hl1, hm1, hi1⟩ := HR1.out.rowsIn
  obtain ⟨A2, c2, rfl, hl2, hm2, hi2⟩ := hr2.rowsIn
  rw [hL1] at hi1
  rw [hL2] at hi2
  have e1 : L1.length = RL.length := by rw [← hL1, List.length_map]
  have e2 : L2.length = RL.length := by rw [← hL2, List.length_map]
  rw [e1] at hl1
  rw [e2] at hl2
  rw [e1, e2]
  have hi1' : RowsIn w2 (fun k => k < w2.heap.size) A1 RL := (hi1.kept (fun k hk => hb2.block k hk.2)).mono (fun k hk => Nat.lt_of_lt_of_le hk.2 hb2.size)
  have hi2' : RowsIn w2 (fun k => k < w2.heap.size) A2 RL := hi2.mono (fun k hk => hk.2)
  have hkz : VK9 w w2 d s b m (t0, t1, t2, n) w2 := ⟨(HK1.out.next hb2).g, (HK1.out.next hb2).t, Below.refl _ _, (HK1.out.next hb2).a⟩
  have HKZ := hid hkz
  have cA : Hid (∀ wx, VK9 w w2 d s b m (t0, t1, t2, n) wx → Calls Tryz.prog 12 #[] wx fun e w' => e = .returned (.bool true) ∧ VK9 w w2 d s b m (t0, t1, t2, n) w') := hid fun wx h => (CA.out wx h.a).mono fun e w' ⟨he, hb⟩ => ⟨he, h.next hb⟩
  have cV : Hid (∀ wx, VK9 w w2 d s b m (t0, t1, t2, n) wx → Calls Tryz.prog 13 #[.slice A l.length c, .agg #[.int .i64 d, .int .i64 s, .int .i64 b, .int .i64 m], .int .i64 n] wx fun e w' => e = .returned (.int .i64 V) ∧ VK9 w w2 d s b m (t0, t1, t2, n) w') := hid fun wx h => (CV.out wx h.a).mono fun e w' ⟨he, hb⟩ => ⟨he, h.next hb⟩
  have cQ : Hid (∀ wx, VK9 w w2 d s b m (t0, t1, t2, n) wx → Calls Tryz.prog 14 #[.slice A l.length c, .agg #[.int .i64 d, .int .i64 s, .int .i64 b, .int .i64 m], .int .i64 n] wx fun e w' => e = .returned (.int .i64 V) ∧ VK9 w w2 d s b m (t0, t1, t2, n) w') := hid fun wx h => (CQ.out wx h.a).mono fun e w' ⟨he, hb⟩ => ⟨he, h.next hb⟩
  have cS : Hid (∀ wx, VK9 w w2 d s b m (t0, t1, t2, n) wx → Calls Tryz.prog 15 #[.slice A1 RL.length c1, .slice A2 RL.length c2] wx fun e w' => e = .returned (.bool true) ∧ VK9 w w2 d s b m (t0, t1, t2, n) w') := hid fun wx h =>
    (sameLists_any A1 A2 RL RL c1 c2 _ _ wx (hi1'.kept (fun k hk => h.b.block k hk)) (hi2'.kept (fun k hk => h.b.block k hk)) (by omega)).mono fun e w' ⟨he, q, hw⟩ => ⟨by rw [he, decide_eq_true rfl], by rw [hw]; exact h.next (S3.below_drewN (Below.refl _ _) q)⟩
  clear CA CV CQ CW CR hi1 hi2 hi1' hi2' hl1 hl2 hm1 hm2 hr2 HR1 HK1 hb2 g0 g1 g2 g3 hL1 hL2 e1 e2 hkz
  go_wp2
  go_loopw [12] (fun iv wr => ∃ i : Nat, iv = .int .i64 (i : Int) ∧ i ≤ l.length ∧ Hid (VK9 w w2 d s b m (t0, t1, t2, n) wr)) (fun iv _ => l.length - (RowKit.intOf iv).toNat)
  case atStart => exact ⟨0, rfl, Nat.zero_le _, HKZ⟩
  case round =>
    obtain ⟨i, rfl, hi, hK⟩ := hrel
    clear HKZ
    by_cases hlt : i < l.length
    · have hltz : (i : Int) < (l.length : Int) := by omega
      have dk : decide (l.length ≤ i) = false := decide_eq_false (by omega)
      obtain ⟨fb, fo, q, rfl, hfb, hri, y0, y1⟩ := (HH.out.below hK.out.a).at_ hlt
      have cF := fun W (hb : Below w.heap.size w W) => free_any l[i] q (t0, t1, t2, n) ht W (((hri.kept (fun k hk => (hb.block k hk).trans (hK.out.a.block k hk).symm))).mono (fun k hk => Nat.lt_of_lt_of_le hk hb.size))
      have cG := fun W (hb : Below w.heap.size w W) => rfree_any l[i] q (t0, t1, t2, n) ht W (((hri.kept (fun k hk => (hb.block k hk).trans (hK.out.a.block k hk).symm))).mono (fun k hk => Nat.lt_of_lt_of_le hk hb.size))
      unfold Says lectV timeV at cF cG
      obtain ⟨F, hF⟩ : ∃ F, clearM l[i].2 (t0, t1, t2, n) = F := ⟨_, rfl⟩
      rw [hF] at cF cG
      dsimp only at cF cG
      obtain ⟨X, hX⟩ : ∃ X, ba l[i].1 = X := ⟨_, rfl⟩
      obtain ⟨T, hT⟩ : ∃ T, l[i].2.length = T := ⟨_, rfl⟩
      rw [hX] at y0 cF cG
      rw [hT] at y1 cF cG
      have hk' : VR9 w w2 d s b m (t0, t1, t2, n) fb (fo + i * 2) (.string X) (.slice q.1 T q.2) wr := ⟨hK.out, y0, y1, hfb⟩
      have CF : Hid (∀ wx, VR9 w w2 d s b m (t0, t1, t2, n) fb (fo + i * 2) (.string X) (.slice q.1 T q.2) wx → Calls Tryz.prog 10 #[.agg #[.string X, .slice q.1 T q.2], .agg #[.int .i64 t0, .int .i64 t1, .int .i64 t2, .int .i64 n]] wx fun e w' => e = .returned (.bool F) ∧ VR9 w w2 d s b m (t0, t1, t2, n) fb (fo + i * 2) (.string X) (.slice q.1 T q.2) w') := hid fun wx h => (cF wx h.v.a).mono fun e w' ⟨he, hb⟩ => ⟨he, h.next hb⟩
      have CG : Hid (∀ wx, VR9 w w2 d s b m (t0, t1, t2, n) fb (fo + i * 2) (.string X) (.slice q.1 T q.2) wx → Calls Tryz.prog 11 #[.agg #[.string X, .slice q.1 T q.2], .agg #[.int .i64 t0, .int .i64 t1, .int .i64 t2, .int .i64 n]] wx fun e w' => e = .returned (.bool F) ∧ VR9 w w2 d s b m (t0, t1, t2, n) fb (fo + i * 2) (.string X) (.slice q.1 T q.2) w') := hid fun wx h => (cG wx h.v.a).mono fun e w' ⟨he, hb⟩ => ⟨he, h.next hb⟩
      clear cF cG hF hX hT hri y0 y1 hK
      obtain ⟨k0, k1, k2, k3, _⟩ := id hk'.v.t
      cases F with
      | true =>
        go_upto_region 7 with fail
        go_region_held3 (fun w' => w'.cell? ⟨fb, fo + i * 2, none⟩ = some (.string X) ∧ w'.cell? ⟨fb, fo + i * 2 + 1, none⟩ = some (.slice q.1 T q.2) ∧ w'.cell? ⟨w.heap.size + 1, 0, none⟩ = some (.int .i64 t0) ∧ w'.cell? ⟨w.heap.size + 1, 1, none⟩ = some (.int .i64 t1) ∧ w'.cell? ⟨w.heap.size + 1, 2, none⟩ = some (.int .i64 t2) ∧ w'.cell? ⟨w.heap.size + 1, 3, none⟩ = some (.int .i64 n))
          (first | exact ⟨hk'.c0, hk'.c1, hk'.v.t.c0, hk'.v.t.c1, hk'.v.t.c2, hk'.v.t.c3⟩ | exact ⟨(hk'.next (Below.refl _ _).drew).c0, (hk'.next (Below.refl _ _).drew).c1, (hk'.next (Below.refl _ _).drew).v.t.c0, (hk'.next (Below.refl _ _).drew).v.t.c1, (hk'.next (Below.refl _ _).drew).v.t.c2, (hk'.next (Below.refl _ _).drew).v.t.c3⟩)
          (first
            | (go_at_call 10; refine (CF.out _ (hk'.next (Below.refl _ _).drew)).mono ?_; rintro e w' ⟨rfl, hk'⟩)
            | (go_at_call 10; refine (CF.out _ hk').mono ?_; rintro e w' ⟨rfl, hk'⟩)
            | (go_at_call 11; refine (CG.out _ (hk'.next (Below.refl _ _).drew)).mono ?_; rintro e w' ⟨rfl, hk'⟩)
            | (go_at_call 11; refine (CG.out _ hk').mono ?_; rintro e w' ⟨rfl, hk'⟩))
        all_goals
          have HV := hid hk'.v
          clear hk'
          go_wp2
          go_roundw
          case rel => exact ⟨i + 1, by go_num, by omega, HV⟩
          case measure => simp [RowKit.intOf]; omega
      | false =>
        go_upto_region 7 with fail
        go_region_held3 (fun w' => w'.cell? ⟨fb, fo + i * 2, none⟩ = some (.string X) ∧ w'.cell? ⟨fb, fo + i * 2 + 1, none⟩ = some (.slice q.1 T q.2) ∧ w'.cell? ⟨w.heap.size + 1, 0, none⟩ = some (.int .i64 t0) ∧ w'.cell? ⟨w.heap.size + 1, 1, none⟩ = some (.int .i64 t1) ∧ w'.cell? ⟨w.heap.size + 1, 2, none⟩ = some (.int .i64 t2) ∧ w'.cell? ⟨w.heap.size + 1, 3, none⟩ = some (.int .i64 n))
          (first | exact ⟨hk'.c0, hk'.c1, hk'.v.t.c0, hk'.v.t.c1, hk'.v.t.c2, hk'.v.t.c3⟩ | exact ⟨(hk'.next (Below.refl _ _).drew).c0, (hk'.next (Below.refl _ _).drew).c1, (hk'.next (Below.refl _ _).drew).v.t.c0, (hk'.next (Below.refl _ _).drew).v.t.c1, (hk'.next (Below.refl _ _).drew).v.t.c2, (hk'.next (Below.refl _ _).drew).v.t.c3⟩)
          (first
            | (go_at_call 10; refine (CF.out _ (hk'.next (Below.refl _ _).drew)).mono ?_; rintro e w' ⟨rfl, hk'⟩)
            | (go_at_call 10; refine (CF.out _ hk').mono ?_; rintro e w' ⟨rfl, hk'⟩)
            | (go_at_call 11; refine (CG.out _ (hk'.next (Below.refl _ _).drew)).mono ?_; rintro e w' ⟨rfl, hk'⟩)
            | (go_at_call 11; refine (CG.out _ hk').mono ?_; rintro e w' ⟨rfl, hk'⟩))
        all_goals
          have HV := hid hk'.v
          clear hk'
          go_wp2
          go_roundw
          case rel => exact ⟨i + 1, by go_num, by omega, HV⟩
          case measure => simp [RowKit.intOf]; omega
    · have hltz : ¬ (i : Int) < (l.length : Int) := by omega
      have hk' := hK.out
      clear hK
      obtain ⟨g0, g1, g2, g3, _⟩ := id hk'.g
      go_wp2_with fail
      go_region_held3 (fun w' => w'.cell? ⟨w.heap.size, 0, none⟩ = some (.int .i64 d) ∧ w'.cell? ⟨w.heap.size, 1, none⟩ = some (.int .i64 s) ∧ w'.cell? ⟨w.heap.size, 2, none⟩ = some (.int .i64 b) ∧ w'.cell? ⟨w.heap.size, 3, none⟩ = some (.int .i64 m))
        (first | exact ⟨hk'.g.c0, hk'.g.c1, hk'.g.c2, hk'.g.c3⟩ | exact ⟨(hk'.next (Below.refl _ _).drew).g.c0, (hk'.next (Below.refl _ _).drew).g.c1, (hk'.next (Below.refl _ _).drew).g.c2, (hk'.next (Below.refl _ _).drew).g.c3⟩)
        (first
          | (go_at_call 12; refine (cA.out _ (hk'.next (Below.refl _ _).drew)).mono ?_; rintro e w' ⟨rfl, hk'⟩)
          | (go_at_call 12; refine (cA.out _ hk').mono ?_; rintro e w' ⟨rfl, hk'⟩)
          | (go_at_call 13; refine (cV.out _ hk').mono ?_; rintro e w' ⟨rfl, hk'⟩)
          | (go_at_call 14; refine (cQ.out _ hk').mono ?_; rintro e w' ⟨rfl, hk'⟩)
          | (go_at_call 15; refine (cS.out _ hk').mono ?_; rintro e w' ⟨rfl, hk'⟩))
      all_goals
        go_wp2_with fail
        go_ret
        exact ⟨rfl, hk'.a⟩
theorem rowLow {w : World} {e z n B B' : Nat} {v : Value} {xs : List Value} (h : w.ownsRow B e z v n xs) (hB : B' ≤ B) : w.ownsRow B' e z v n xs := by
  obtain ⟨h1, h2⟩ := h
  refine ⟨h1, ?_⟩
  rcases h2 with h2 | ⟨g, cap, cur, hv, hg, r⟩
  · exact .inl h2
  · exact .inr ⟨g, cap, cur, hv, Nat.le_trans hB hg, r⟩
end Go.Proofs.YtnpfmoalgphkcaaGreatDoor
namespace Go.Proofs.YtnpfmoalgphkcaaGreatDoor.S3
open Go Go.Proofs Go.RowKit Go.Lib
theorem splitL_first : ∀ (l : Str) (i : Nat), l[i]? = some 59 → (∀ j, j < i → l[j]? ≠ some 59) → splitL l = l.take i :: splitL (l.drop (i + 1))
  | [], i, h, _ => by simp at h
  | c :: s, 0, h, _ => by
    have : c = 59 := by simpa using h
    subst this
    simp [splitL]
  | c :: s, i + 1, h, hn => by
    have h0 : c ≠ 59 := fun e => hn 0 (by omega) (by simp [e])
    have ih := splitL_first s i (by simpa using h) (fun j hj => by have := hn (j + 1) (by omega); simpa using this)
    simp [splitL, if_neg h0, ih]
theorem splitL_no : ∀ (l : Str), (∀ j, j < l.length → l[j]? ≠ some 59) → splitL l = [l]
  | [], _ => rfl
  | c :: s, h => by
    have h0 : c ≠ 59 := fun e => h 0 (by simp) (by simp [e])
    have ih := splitL_no s (fun j hj => by have := h (j + 1) (by simp; omega); simpa using this)
    simp [splitL, if_neg h0, ih]
def SplitSt (l : Str) (done : List Str) (a i : Nat) : Prop :=
  (i ≤ l.length → a ≤ l.length ∧ splitL l = done ++ splitL (l.drop a) ∧ ∀ j, a ≤ j → j < i → l[j]? ≠ some 59) ∧ (i = l.length + 1 → done = splitL l)
theorem SplitSt.hit {l : Str} {done : List Str} {a i : Nat} (h : SplitSt l done a i) (hi : i < l.length) (ha : a ≤ i) (hx : l[i]? = some 59) : SplitSt l (done ++ [(l.take i).drop a]) (i + 1) (i + 1) := by
  obtain ⟨h1, h2, h3⟩ := h.1 (by omega)
  have e := splitL_first (l.drop a) (i - a) (by rw [List.getElem?_drop, show a + (i - a) = i by omega]; exact hx) (fun j hj => by rw [List.getElem?_drop]; exact h3 (a + j) (by omega) (by omega))
  rw [List.drop_drop, show a + (i - a + 1) = i + 1 by omega] at e
  refine ⟨fun _ => ⟨by omega, ?_, fun j h1 h2 => by omega⟩, fun h => by omega⟩
  rw [h2, e, List.drop_take]
  simp
theorem SplitSt.miss {l : Str} {done : List Str} {a i : Nat} (h : SplitSt l done a i) (hi : i < l.length) (hx : l[i]? ≠ some 59) : SplitSt l done a (i + 1) := by
  obtain ⟨h1, h2, h3⟩ := h.1 (by omega)
  refine ⟨fun _ => ⟨h1, h2, fun j hj1 hj2 => ?_⟩, fun h => by omega⟩
  rcases Nat.lt_or_ge j i with hji | hji
  · exact h3 j hj1 hji
  · obtain rfl : j = i := by omega
    exact hx
theorem SplitSt.last {l : Str} {done : List Str} {a : Nat} (h : SplitSt l done a l.length) : SplitSt l (done ++ [(l.take l.length).drop a]) (l.length + 1) (l.length + 1) := by
  obtain ⟨h1, h2, h3⟩ := h.1 (Nat.le_refl _)
  have e := splitL_no (l.drop a) (fun j hj => by
    rw [List.getElem?_drop]
    simp at hj
    exact h3 (a + j) (by omega) (by omega))
  refine ⟨fun h => by omega, fun _ => ?_⟩
  rw [h2, e, List.take_length]
set_option maxHeartbeats 4000000 in
set_option maxRecDepth 100000 in
theorem split_any (s : ByteArray) (hs : s.size ≤ 2097152) (w : World) : Calls Tryz.prog 112 #[.string s] w (RowOut (splitL (lst s)) w) := by
  obtain ⟨i9, hi9, hz9, hsi9, hby9⟩ := info_parts infoStr
  have hlen : (lst s).length = s.size := (Lib.size_eq s).symm
  go_enter Tryz.func112, Tryz.ntmps112
  go_wp2
  go_loopw [3, 4, 5] (fun v av iv wr => ∃ (done : List Str) (a i : Nat), av = .int .i64 (a : Int) ∧ iv = .int .i64 (i : Int) ∧ i ≤ s.size + 1 ∧ (i ≤ s.size → a ≤ i) ∧ StrRow wr w.heap.size v done ∧ done.length ≤ i ∧ Hid (SplitSt (lst s) done a i) ∧ Hid (Below w.heap.size w wr)) (fun _ _ iv _ => s.size + 1 - (RowKit.intOf iv).toNat)
  case atStart => exact ⟨[], 0, 0, rfl, rfl, by omega, fun _ => by omega, World.ownsRow_nil _ _ _ _, by simp, hid ⟨fun _ => ⟨by omega, by simp, fun j h1 h2 => by omega⟩, fun h => by omega⟩, hid (Below.refl _ _)⟩
  case round =>
    obtain ⟨done, a, i, rfl, rfl, hi, hai, hrow, hdl, hst, hB⟩ := hrel
    have HRow := hid hrow
    clear hrow
    by_cases hle : i ≤ s.size
    · have hlez : (i : Int) ≤ (s.size : Int) := by omega
      have ha := hai hle
      have haz : (a : Int) ≤ (i : Int) := by omega
      have e1 : IntKind.i64.wrap ((i : Int) + 1) = (i : Int) + 1 := IntWalk.i64_in _ (by omega)
      obtain ⟨X, hX⟩ : ∃ X, s.extract a i = X := ⟨_, rfl⟩
      have lX : lst X = ((lst s).take i).drop a := by rw [← hX, lst_extract]
      have HC3 : Hid (done.length + 1 ≤ maxLen) := by unfold maxLen; exact hid (by omega)
      have HC4 : Hid ((done.length + 1) * 16 ≤ 140737488355328) := hid (by omega)
      have HC5 : Hid (∀ o : Obj, w.heap.size ≤ (wr.alloc o).heap.size) := hid (fun o => by have := hB.out.size; simp; omega)
      have three : (i = s.size) ∨ (∃ h : i < s.size, s[i]'h = 59) ∨ (∃ h : i < s.size, s[i]'h ≠ 59) := by
        rcases Nat.lt_or_ge i s.size with h | h
        · by_cases hx : s[i]'h = 59
          · exact .inr (.inl ⟨h, hx⟩)
          · exact .inr (.inr ⟨h, hx⟩)
        · exact .inl (by omega)
      have fin : ∀ (hst2 : SplitSt (lst s) (done ++ [lst X]) (i + 1) (i + 1)), True := fun _ => trivial
      clear fin
      rcases three with he | ⟨hlt, hx⟩ | ⟨hlt, hx⟩
      · have hez : ((i : Int) == (s.size : Int)) = true := by simp [he]
        have hst2 := hid (show SplitSt (lst s) (done ++ [lst X]) (i + 1) (i + 1) by
          have h := hst.out
          rw [he, ← hlen] at h
          have h2 := h.last
          rw [lX, he, ← hlen]
          exact h2)
        clear lX he hst
        go_wp2_with (first | (at_builtin; refine wpList_append_own _ rfl _ _ 58 rfl w.heap.size 9 i9 (.string ⟨#[]⟩) 1 16 Tryz.underlying58 hi9 hz9 hsi9 hby9 rfl (by decide) _ done.length (strVals done) rfl (World.ownsRow.alloc HRow.out _) ⟨wr.heap.size, 0, none⟩ 1 1 [.string X] rfl rfl (by rw [← hX]; exact one_new _ _ _) (one_str _) HC3.out HC4.out (HC5.out _) ?_))
        intro v' w6 hown' hgrow _
        have hg' := grownBy_of_alloc hgrow
        have hb56 : Below w.heap.size wr w6 := (Below.refl _ wr).grown hg' hB.out.size (fun k hk => (World.ownsRow.lt HRow.out k hk).1)
        have HB6 := hid (hB.out.trans hb56)
        have HRow6 := hid hown'
        clear hown' hgrow hg' hb56
        go_wp2
        go_roundw
        case rel =>
          refine ⟨done ++ [lst X], i + 1, i + 1, by go_num, by go_num, by omega, fun _ => Nat.le_refl _, ?_, by simp; omega, hst2, HB6⟩
          unfold StrRow
          rw [strVals_app, List.length_append]
          have e : strVals [lst X] = [.string X] := by show [strV (lst X)] = _; rw [strV_lst]
          rw [e]
          exact HRow6.out
        case measure => simp [RowKit.intOf]; omega
      · have hez : ((i : Int) == (s.size : Int)) = false := by simp; omega
        have hxz : (((s[i]'hlt).toNat : Int) == 59) = true := by rw [hx]; rfl
        have hg : (lst s)[i]? = some 59 := by rw [lst_get s i hlt, hx]
        have hst2 := hid (show SplitSt (lst s) (done ++ [lst X]) (i + 1) (i + 1) by
          rw [lX]
          exact hst.out.hit (by rw [hlen]; exact hlt) ha hg)
        obtain ⟨x, hxe⟩ : ∃ x, s[i]'hlt = x := ⟨_, rfl⟩
        rw [hxe] at hxz
        clear lX hg hst hx
        go_wp2_with (first | (at_builtin; refine wpList_append_own _ rfl _ _ 58 rfl w.heap.size 9 i9 (.string ⟨#[]⟩) 1 16 Tryz.underlying58 hi9 hz9 hsi9 hby9 rfl (by decide) _ done.length (strVals done) rfl (World.ownsRow.alloc HRow.out _) ⟨wr.heap.size, 0, none⟩ 1 1 [.string X] rfl rfl (by rw [← hX]; exact one_new _ _ _) (one_str _) HC3.out HC4.out (HC5.out _) ?_))
        intro v' w6 hown' hgrow _
        have hg' := grownBy_of_alloc hgrow
        have hb56 : Below w.heap.size wr w6 := (Below.refl _ wr).grown hg' hB.out.size (fun k hk => (World.ownsRow.lt HRow.out k hk).1)
        have HB6 := hid (hB.out.trans hb56)
        have HRow6 := hid hown'
        clear hown' hgrow hg' hb56
        go_wp2
        go_roundw
        case rel =>
          refine ⟨done ++ [lst X], i + 1, i + 1, by go_num, by go_num, by omega, fun _ => Nat.le_refl _, ?_, by simp; omega, hst2, HB6⟩
          unfold StrRow
          rw [strVals_app, List.length_append]
          have e : strVals [lst X] = [.string X] := by show [strV (lst X)] = _; rw [strV_lst]
          rw [e]
          exact HRow6.out
        case measure => simp [RowKit.intOf]; omega
      · have hez : ((i : Int) == (s.size : Int)) = false := by simp; omega
        have hg : (lst s)[i]? ≠ some 59 := by
          rw [lst_get s i hlt]
          intro e
          injection e with e
          exact hx e
        have hxz : (((s[i]'hlt).toNat : Int) == 59) = false := by
          rw [beq_eq_false_iff_ne]
          intro e
          exact hx (UInt8.toNat_inj.1 (by have : (59 : UInt8).toNat = 59 := rfl; omega))
        have hst2 := hid (hst.out.miss (by rw [hlen]; exact hlt) hg)
        obtain ⟨x, hxe⟩ : ∃ x, s[i]'hlt = x := ⟨_, rfl⟩
        rw [hxe] at hxz
        clear lX hg hst hx hX
        go_wp2
        go_roundw
        case rel => exact ⟨done, a, i + 1, rfl, by go_num, by omega, fun _ => by omega, HRow.out, by omega, hst2, hB⟩
        case measure => simp [RowKit.intOf]; omega
    · have hlez : ¬ (i : Int) ≤ (s.size : Int) := by omega
      have hd : done = splitL (lst s) := hst.out.2 (by omega)
      subst hd
      go_wp2
      go_ret
      exact ⟨⟨_, rfl, HRow.out⟩, hB.out⟩
end Go.Proofs.YtnpfmoalgphkcaaGreatDoor.S3
