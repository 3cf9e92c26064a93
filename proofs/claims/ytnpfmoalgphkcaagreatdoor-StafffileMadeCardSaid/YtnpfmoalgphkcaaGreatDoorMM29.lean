/-
  Parse of times by the specification, for any text. Conditions: the variables hold what their text lays; the string fits into memory. Times of the .. Conditions: as stated.
-/
import Derived.Test.YtnpfmoalgphkcaaGreatDoorMM01
import Derived.Test.YtnpfmoalgphkcaaGreatDoorMM02
import Derived.Test.YtnpfmoalgphkcaaGreatDoorMM03
import Derived.Test.YtnpfmoalgphkcaaGreatDoorMM04
import Derived.Test.YtnpfmoalgphkcaaGreatDoorMM05
import Derived.Test.YtnpfmoalgphkcaaGreatDoorMM06
import Derived.Test.YtnpfmoalgphkcaaGreatDoorMM07
import Derived.Test.YtnpfmoalgphkcaaGreatDoorMM08
import Derived.Test.YtnpfmoalgphkcaaGreatDoorMM09
import Derived.Test.YtnpfmoalgphkcaaGreatDoorMM10
import Derived.Test.YtnpfmoalgphkcaaGreatDoorMM11
import Derived.Test.YtnpfmoalgphkcaaGreatDoorMM12
import Derived.Test.YtnpfmoalgphkcaaGreatDoorMM13
import Derived.Test.YtnpfmoalgphkcaaGreatDoorMM14
import Derived.Test.YtnpfmoalgphkcaaGreatDoorMM15
import Derived.Test.YtnpfmoalgphkcaaGreatDoorMM16
import Derived.Test.YtnpfmoalgphkcaaGreatDoorMM17
import Derived.Test.YtnpfmoalgphkcaaGreatDoorMM20
import Derived.Test.YtnpfmoalgphkcaaGreatDoorMM22
import Derived.Test.YtnpfmoalgphkcaaGreatDoorMM23
import Derived.Test.YtnpfmoalgphkcaaGreatDoorMM24
import Derived.Test.YtnpfmoalgphkcaaGreatDoorMM25
import Derived.Test.YtnpfmoalgphkcaaGreatDoorMM26
import Derived.Test.YtnpfmoalgphkcaaGreatDoorMM27
import Derived.Test.YtnpfmoalgphkcaaGreatDoorMM28
import Derived.Test.YtnpfmoalgphkcaaGreatDoorProg
import Derived.WalkKit
import Derived.WalkSpells
import Derived.WalkLawsBesides
import Derived.Lib.Hide
import Derived.Deep.QuietTactic
import Derived.BigQuiet
import Derived.Laws.Rows
import Derived.OwnWalk
import Derived.Lib.BufferWrite
import Derived.Lib.UnsafeStr
import Derived.Laws.IdiomStrings
import Derived.Laws.BytesArg
import Derived.Laws.BytesString
import Derived.Laws.OwnMore
import Derived.Lib.IndexLaws
import Derived.Lib.ItoaNum
import Derived.Lib.Atoi
import Derived.Laws.BitsAllLaws
import Derived.Laws.BitsLemmas
import Derived.Deep.MidRow
import Derived.Shelf.Strings.Builder1
import Derived.Shelf.Strings.Builder2
import Derived.Shelf.Strings.OnBuilder
import Derived.Shelf.Strings.BuilderF
import Derived.Shelf.Strings.BuilderK
import Derived.Shelf.Strings.Builder2Cap
import Derived.Shelf.Strconv.Atoi
import Derived.Shelf.Strconv.Itoa0
import Derived.Shelf.Strconv.Itoa1
import Derived.Shelf.LaysM
import Derived.Shelf.Strconv.Itoa2
import Derived.Shelf.Strconv.Itoa3
import Derived.Shelf.Strconv.AtoiErrFast
import Derived.Shelf.Strconv.ParseIntEmpty
import Derived.Shelf.Strconv.AtoiFail
import Derived.Shelf.Strconv.Clone
import Derived.Shelf.Strconv.SyntaxError
import Derived.Shelf.LaysC
import Derived.Shelf.Strconv.ToError
import Derived.Shelf.Strconv.AtoiErr
import Derived.Shelf.Strings.Search1
import Derived.Shelf.Strings.Search2
import Derived.Shelf.Strings.Search3
import Derived.Shelf.Strings.Cut
import Derived.Shelf.Strings.Shaped
import Derived.Shelf.Strings.Prefix
import Derived.Shelf.Unicode.DecodeSlow
import Derived.Shelf.Strings.BuilderCap
import Derived.Lib.AtoiErrMem
import Derived.Handy
import Derived.RangeFuncNested
import Derived.RangeFuncBound
import Derived.RangeFuncCalls
import Derived.RangeFuncLeaves
import Derived.Shelf.Abstract
import Derived.Shelf.RegionOpen
import Derived.OwnWalkIn
import Derived.TacticsInMore
import Derived.LoopNIn
import Derived.LoopIn
import Derived.Laws.ResultCell
import Derived.Deep.RegionLaw
import Derived.Deep.RegionHeld3
import Derived.Lib.Bytealg
import Derived.Maps.OwnSet
import Derived.Maps.Range
import Derived.Lib.SlTrimSet
import Derived.Shelf.Strings.SlTrimAscii
import Derived.RegionTactic
import Derived.Lib.Repeat
import Derived.Lib.SlicesS
import Derived.Deep.DeepCutAuto
import Derived.Lib.Join
import Derived.Laws.Concat
import Derived.Sort.EncStr
import Derived.Sort.Walk0
import Derived.StillTailTactics
import Derived.Deep.RegionLawGrows
import Derived.Deep.AppendLies
import Derived.Deep.CutBlock
import Derived.Maps.AppendAt
import Derived.IntWalk
import Derived.Shelf.SlGeneric
import Derived.Shelf.SlicesQ.IndexFunc
set_option linter.unusedVariables false
namespace Go.Proofs.YtnpfmoalgphkcaaGreatDoor
open Go Go.Proofs Go.RowKit Go.Lib
theorem rtparse_any (d s b m N : Int) (x : ByteArray) (hz : x.size ≤ 4611686018427387904) (w : World) (hsz : 9 < w.heap.size) (hW : Words w) (hRD : RDays w) :
    Calls Tryz.prog 93 #[.agg #[.int .i64 d, .int .i64 s, .int .i64 b, .int .i64 m], .int .i64 N, .string x] w (TimeOut (timeM d s b m N (lst x)) w) := by
  by_cases hg : goodT (lst x)
  · cases h : has 45 (wSlots (lst x)) with
    | true => exact rtparse_both_g d s b m N x hz w hsz hW hRD h hg
    | false => exact rtparse_one_g d s b m N x hz w hsz hW hRD h hg
  · cases h : has 45 (wSlots (lst x)) with
    | true => exact rtparse_both_w d s b m N x hz w hsz hW hRD h hg
    | false => exact rtparse_one_w d s b m N x hz w hsz hW hRD h hg
set_option maxHeartbeats 2000000 in
theorem parts_any (s : ByteArray) (hs : s.size ≤ 2097152) (w : World) : Calls Tryz.prog 92 #[.string s] w (S3.RowOut (S3.splitL (lst s)) w) := by
  have cS := hid (S3.split_any s hs w)
  go_enter Tryz.func92, Tryz.ntmps92
  go_wp2_with fail
  refine cS.out.mono ?_
  rintro e w1 ⟨⟨v, rfl, hrow⟩, hb1⟩
  have HR := hid hrow
  have HB := hid hb1
  clear hrow hb1
  go_wp2
  go_ret
  exact ⟨⟨_, rfl, HR.out⟩, HB.out⟩
structure TS (w0 wo : World) (d s b m : Int) (bp op : Nat) (P : ByteArray) (w : World) : Prop where
  g : K1 w0 d s b m w
  c : w.cell? ⟨bp, op, none⟩ = some (.string P)
  o : Below wo.heap.size wo w
  z : bp < wo.heap.size
theorem TS.next {w0 wo w w' : World} {d s b m : Int} {bp op : Nat} {P : ByteArray} (h : TS w0 wo d s b m bp op P w) (q : Below w.heap.size w w') : TS w0 wo d s b m bp op P w' :=
  ⟨h.g.next q, (q.cell (p := ⟨bp, op, none⟩) (Nat.lt_of_lt_of_le h.z h.o.size)).trans h.c, h.o.trans (q.mono h.o.size), h.z⟩
theorem TS.far {w0 wo w w' : World} {d s b m : Int} {bp op : Nat} {P : ByteArray} (h : TS w0 wo d s b m bp op P w) (q : Below wo.heap.size w w') (hw : w0.heap.size < wo.heap.size) : TS w0 wo d s b m bp op P w' :=
  ⟨⟨h.g.x.next q hw, h.g.b.trans (q.mono (Nat.le_of_lt hw))⟩, (q.cell (p := ⟨bp, op, none⟩) h.z).trans h.c, h.o.trans q, h.z⟩
theorem TS.cells {w0 wo w : World} {d s b m : Int} {bp op : Nat} {P : ByteArray} (h : TS w0 wo d s b m bp op P w) :
    w.cell? ⟨w0.heap.size, 0, none⟩ = some (.int .i64 d) ∧ w.cell? ⟨w0.heap.size, 1, none⟩ = some (.int .i64 s) ∧ w.cell? ⟨w0.heap.size, 2, none⟩ = some (.int .i64 b) ∧ w.cell? ⟨w0.heap.size, 3, none⟩ = some (.int .i64 m) ∧ w.cell? ⟨bp, op, none⟩ = some (.string P) :=
  ⟨h.g.x.c0, h.g.x.c1, h.g.x.c2, h.g.x.c3, h.c⟩
theorem TimeAt.new (w : World) (k y t l : Int) : TimeAt (w.alloc (.cells #[.int .i64 k, .int .i64 y, .int .i64 t, .int .i64 l] 26)) w.heap.size k y t l := heap_alloc_new w _
set_option maxHeartbeats 8000000 in
set_option maxRecDepth 100000 in
theorem rtimes_any (d s b m n : Int) (x : ByteArray) (hs : x.size ≤ 2097152) (w : World) (hE : REnv7 w) :
    Calls Tryz.prog 74 #[.string x, .agg #[.int .i64 d, .int .i64 s, .int .i64 b, .int .i64 m], .int .i64 n] w (TimesOut (timesM d s b m n (lst x)) w) := by
  obtain ⟨i9, hi9, hz9, hsi9, hby9⟩ := info_parts infoTime
  have hk := K1.first w d s b m 24
  have HK := hid hk
  have HE := hid (fun (w' : World) (hb : Below w.heap.size w w') => hE.below hb (Nat.le_refl _))
  have hzw0 : (w.alloc (.cells #[.int .i64 d, .int .i64 s, .int .i64 b, .int .i64 m] 24)).heap.size = w.heap.size + 1 := by simp
  clear hk hE
  unfold TimesOut
  by_cases h0 : 0 < x.size
  · obtain ⟨x1, x2, x3, x4⟩ := str_no h0
    have hne : lst x ≠ [] := fun e => by rw [Lib.size_eq, show x.data.toList = lst x from rfl, e] at h0; simp at h0
    have hM : timesM d s b m n (lst x) = if (tgo d s b m n (S3.splitL (lst x)) []).2 ≠ 0 then ([], (tgo d s b m n (S3.splitL (lst x)) []).2) else if 24 < (tgo d s b m n (S3.splitL (lst x)) []).1.length then ([], 2) else ((tgo d s b m n (S3.splitL (lst x)) []).1, 0) := by
      unfold timesM
      rw [if_neg hne]
    have hpn := splitL_len (lst x)
    have hmem := S3.splitL_mem (lst x)
    have hlx : (lst x).length = x.size := (Lib.size_eq x).symm
    rw [hlx] at hpn
    have cS := hid (fun w => parts_any x hs w)
    obtain ⟨PS, hPS⟩ : ∃ PS, S3.splitL (lst x) = PS := ⟨_, rfl⟩
    rw [hPS] at hM hpn
    have hmem' : Hid (∀ p ∈ PS, p.length ≤ x.size) := hid (fun p hp => by have := hmem p (by rw [show S3.splitL (S3.lst x) = PS from hPS]; exact hp); rw [show (S3.lst x).length = x.size from hlx] at this; exact this)
    have cS' := cS.out
    simp only [hPS] at cS'
    have CS := hid cS'
    obtain ⟨R, hR⟩ : ∃ R, timesM d s b m n (lst x) = R := ⟨_, rfl⟩
    rw [hR] at hM ⊢
    have HM := hid hM
    clear hM hR hne cS cS' hPS hmem hlx h0
    obtain ⟨g0, g1, g2, g3, _⟩ := HK.out.x
    go_enter Tryz.func74, Tryz.ntmps74
    go_wp2_with fail
    refine (CS.out _).mono ?_
    rintro e w1 ⟨⟨v, rfl, hrow⟩, hb1⟩
    obtain ⟨A0, c0, rfl, hc1, hc2, hin⟩ := hrow.strsIn
    have hk1 := HK.out.next hb1
    have hin1 := hin.mono (P' := fun k => k < w1.heap.size) (fun k hk => hk.2)
    have hz1 : w.heap.size < w1.heap.size := by have := hb1.size; omega
    have HK1 := hid hk1
    have HIN := hid hin1
    clear hrow hin hin1 hb1 CS g0 g1 g2 g3 HK hk1 hzw0
    go_wp2
    go_loopw [9, 10, 11, 12] (fun ov iv _ _ wr => ∃ (i k : Nat) (Ao : Option Addr) (co : Nat) (L : List TimeD), ov = .slice Ao k co ∧ iv = .int .i64 (i : Int) ∧ i ≤ PS.length ∧ k ≤ 2097153 ∧ Hid (L.length = k) ∧ Hid (TimeRow wr w1.heap.size (.slice Ao k co) L) ∧ Hid (tgo d s b m n (PS.take i) [] = (L, 0)) ∧ Hid (Below w1.heap.size w1 wr)) (fun _ iv _ _ _ => PS.length - (RowKit.intOf iv).toNat)
    case atStart => exact ⟨0, 0, none, 0, [], rfl, rfl, Nat.zero_le _, by omega, hid rfl, hid (World.ownsRow_nil _ _ _ _), hid rfl, hid (Below.refl _ _)⟩
    case round =>
      obtain ⟨i, k, Ao, co, L, rfl, rfl, hi, hk, hLk, hrow, hgo, hB⟩ := hrel
      have hki : Hid (k = i) := hid (by
        have h := tgo_len d s b m n (PS.take i) [] (by rw [hgo.out])
        rw [hgo.out, List.length_take] at h
        have h2 := hLk.out
        simp at h
        omega)
      have hki2 : k ≤ i := by rw [hki.out]; omega
      by_cases hlt : i < PS.length
      · have hltz : (i : Int) < (PS.length : Int) := by omega
        obtain ⟨wo, hwo⟩ : ∃ wo, wo = wr := ⟨_, rfl⟩
        have hzo := hB.out.size
        obtain ⟨bp, op, rfl, hbp, hcp⟩ := (HIN.out.below hB.out).at_ hlt
        obtain ⟨p, hp⟩ : ∃ p, PS[i] = p := ⟨_, rfl⟩
        have htk : PS.take (i + 1) = PS.take i ++ [p] := by rw [List.take_succ_eq_append_getElem hlt, hp]
        have hpm : p ∈ PS := by rw [← hp]; exact List.getElem_mem hlt
        have hsp : PS = PS.take i ++ p :: PS.drop (i + 1) := by rw [← hp, ← List.drop_eq_getElem_cons hlt, List.take_append_drop]
        have hpl := hmem'.out p hpm
        rw [hp] at hcp
        have hstp : Hid (∀ qs, tgo d s b m n (PS.take i ++ qs) [] = tgo d s b m n qs L) := hid (fun qs => by
          rw [tgo_app d s b m n _ _ _ (by rw [hgo.out]), hgo.out])
        obtain ⟨P, hP⟩ : ∃ P : ByteArray, ba p = P := ⟨_, rfl⟩
        have lP : lst P = p := by rw [← hP]; rfl
        have hPs : P.size = p.length := by rw [← hP]; rfl
        have hcp' : wr.cell? ⟨bp, op + i, none⟩ = some (.string P) := by rw [← hP]; exact hcp
        have hts : TS w wr d s b m bp (op + i) P wr := ⟨⟨HK1.out.x.next hB.out (by omega), HK1.out.b.trans (hB.out.mono (by omega))⟩, hcp', Below.refl _ _, Nat.lt_of_lt_of_le hbp hzo⟩
        obtain ⟨⟨⟨t1, t2, t3, t4⟩, e2⟩, hR2⟩ : ∃ R, timeM d s b m n p = R := ⟨_, rfl⟩
        have cP : Hid (∀ wx, TS w wr d s b m bp (op + i) P wx → Calls Tryz.prog 93 #[.agg #[.int .i64 d, .int .i64 s, .int .i64 b, .int .i64 m], .int .i64 n, .string P] wx fun e w' => e = .returned (.tuple #[.agg #[.int .i64 t1, .int .i64 t2, .int .i64 t3, .int .i64 t4], .int .i64 e2]) ∧ Below wx.heap.size wx w') := hid (fun wx hx => by
          have h := rtparse_any d s b m n P (by omega) wx (HE.out wx hx.g.b).z (HE.out wx hx.g.b).wd (HE.out wx hx.g.b).d
          rw [lP, hR2] at h
          exact h)
        have HR2 := hid hR2
        have HTK := hid htk
        have HSP := hid hsp
        have hdi : decide (PS.length ≤ i) = false := decide_eq_false (by omega)
        have HTS := hid hts
        clear hwo hcp hcp' hp htk hpm hsp hpl hP lP hPs hR2 hts
        obtain ⟨⟨⟨g0, g1, g2, g3, _⟩, _⟩, y0, _, _⟩ := HTS.out
        go_upto_region 8 with fail
        go_cut [11, 12] (fun pv ev wx => ∃ T : Nat, pv = .pointer (some ⟨T, 0, none⟩) ∧ ev = .int .i64 e2 ∧ Hid (TimeAt wx T t1 t2 t3 t4) ∧ Hid (TS w wr d s b m bp (op + i) P wx))
        case first =>
          have hk' : TS w wr d s b m bp (op + i) P wr.drew := HTS.out.next (Below.refl _ wr).drew
          have hzl : w.heap.size < wr.heap.size := by have := hB.out.size; omega
          clear g0 g1 g2 g3 y0
          go_region_held3 (fun w' => w'.cell? ⟨w.heap.size, 0, none⟩ = some (.int .i64 d) ∧ w'.cell? ⟨w.heap.size, 1, none⟩ = some (.int .i64 s) ∧ w'.cell? ⟨w.heap.size, 2, none⟩ = some (.int .i64 b) ∧ w'.cell? ⟨w.heap.size, 3, none⟩ = some (.int .i64 m) ∧ w'.cell? ⟨bp, op + i, none⟩ = some (.string P))
            (first | with_reducible exact hk'.cells | with_reducible exact (hk'.next ((Below.refl _ _).alloc (Nat.le_refl _) _)).cells | with_reducible exact (HTS.out.next (((Below.refl _ wr).alloc (Nat.le_refl _) _).drew)).cells | with_reducible exact (hk'.far (((((Below.refl wr.heap.size _).setCell (p := ⟨wr.heap.size, _, none⟩) (Nat.le_refl _) _).setCell (p := ⟨wr.heap.size, _, none⟩) (Nat.le_refl _) _).setCell (p := ⟨wr.heap.size, _, none⟩) (Nat.le_refl _) _).setCell (p := ⟨wr.heap.size, _, none⟩) (Nat.le_refl _) _) hzl).cells)
            (first
              | (go_at_call 93; refine (cP.out _ hk').mono ?_; rintro e w' ⟨rfl, hb'⟩; have hk' := hk'.next hb')
              | (go_at_call 93; refine (cP.out _ (HTS.out.next (((Below.refl _ wr).alloc (Nat.le_refl _) (.cells #[.int .i64 0, .int .i64 0, .int .i64 0, .int .i64 0] 26)).drew))).mono ?_; rintro e w' ⟨rfl, hb'⟩; have hT0 : w'.heap[wr.heap.size]? = some (.cells #[.int .i64 0, .int .i64 0, .int .i64 0, .int .i64 0] 26 (0, 0)) := (hb'.block wr.heap.size (by show wr.heap.size < (wr.alloc _).heap.size; simp)).trans (heap_alloc_new wr _); have HT0 := hid hT0; have z0 : w'.cell? ⟨wr.heap.size, 0, none⟩ = some (.int .i64 0) := by rw [Lib.cell_of_heap hT0]; rfl
                 have z1 : w'.cell? ⟨wr.heap.size, 1, none⟩ = some (.int .i64 0) := by rw [Lib.cell_of_heap hT0]; rfl
                 have z2 : w'.cell? ⟨wr.heap.size, 2, none⟩ = some (.int .i64 0) := by rw [Lib.cell_of_heap hT0]; rfl
                 have z3 : w'.cell? ⟨wr.heap.size, 3, none⟩ = some (.int .i64 0) := by rw [Lib.cell_of_heap hT0]; rfl
                 have f0 := TimeAt.free hT0 0
                 have f1 := TimeAt.free hT0 1
                 have f2 := TimeAt.free hT0 2
                 have f3 := TimeAt.free hT0 3
                 clear hT0
                 have hk' := (HTS.out.next (((Below.refl _ wr).alloc (Nat.le_refl _) (.cells #[.int .i64 0, .int .i64 0, .int .i64 0, .int .i64 0] 26)).drew)).next hb'))
          all_goals
            go_wp2_with fail
            go_meet
            first
            | with_reducible exact ⟨_, rfl, rfl, hid (TimeAt.new _ _ _ _ _), hid (hk'.next ((Below.refl _ _).alloc (Nat.le_refl _) _))⟩
            | exact ⟨wr.heap.size, rfl, rfl, hid (TimeAt.set HT0.out), hid (hk'.far (((((Below.refl wr.heap.size _).setCell (p := ⟨wr.heap.size, 0, none⟩) (Nat.le_refl _) _).setCell (p := ⟨wr.heap.size, 1, none⟩) (Nat.le_refl _) _).setCell (p := ⟨wr.heap.size, 2, none⟩) (Nat.le_refl _) _).setCell (p := ⟨wr.heap.size, 3, none⟩) (Nat.le_refl _) _) hzl)⟩
        case rest =>
          obtain ⟨T, rfl, rfl, hT, hS⟩ := hcut
          have hbc := hS.out.o
          have hrc : TimeRow wc w1.heap.size (.slice Ao k co) L := S3.row_under hrow.out hbc
          have hzc := hbc.size
          have HRC := hid hrc
          have HBC : Hid (Below w1.heap.size w1 wc) := hid (hB.out.trans (hbc.mono hB.out.size))
          obtain ⟨z0, z1, z2, z3, _⟩ := TimeAt.box hT.out
          clear hrc hbc g0 g1 g2 g3 y0
          by_cases h2 : e2 = 0
          · subst h2
            have hnx : Hid (tgo d s b m n (PS.take (i + 1)) [] = (L ++ [(t1, t2, t3, t4)], 0)) := hid (by rw [HTK.out, hstp.out]; simp [tgo, HR2.out])
            have HC3 : Hid (k + 1 ≤ maxLen) := by unfold maxLen; exact hid (by omega)
            have HC4 : Hid ((k + 1) * 32 ≤ 140737488355328) := hid (by omega)
            have HC5 : Hid (∀ o : Obj, w1.heap.size ≤ (wc.alloc o).heap.size) := hid (fun o => by simp; omega)
            have HRA : Hid (∀ o : Obj, (wc.alloc o).ownsRow w1.heap.size 26 4 (.slice Ao k co) k (timeVals L)) := hid (fun o => by have h := World.ownsRow.alloc HRC.out o; rwa [hLk.out] at h)
            have hkx : k + 1 ≤ 2097153 := by omega
            go_wp2_with (at_builtin; refine wpList_append_own _ rfl _ _ 32 rfl w1.heap.size 26 i9 (.agg #[.int .i64 0, .int .i64 0, .int .i64 0, .int .i64 0]) 4 32 Tryz.underlying32 hi9 hz9 hsi9 hby9 rfl (by decide) _ k (timeVals L) rfl (HRA.out _) ⟨wc.heap.size, 0, none⟩ 1 1 (timeVs (t1, t2, t3, t4)) rfl rfl (four_new _ _ _ _ _ _) (times_one _) HC3.out HC4.out (HC5.out _) ?_)
            intro v' w6 hown' hgrow _
            have hg' := grownBy_of_alloc hgrow
            have hb6 : Below w1.heap.size w1 w6 := HBC.out.grown hg' (Nat.le_trans hzo hzc) (fun j e => (World.ownsRow.lt HRC.out j e).1)
            obtain ⟨A6, c6, rfl⟩ := S3.row_slice hown'
            have hrow6 : Hid (TimeRow w6 w1.heap.size (.slice A6 (k + 1) c6) (L ++ [(t1, t2, t3, t4)])) := hid (by
              unfold TimeRow
              rw [timeVals_app, List.length_append, hLk.out]
              simpa [timeVals] using hown')
            have HB6 := hid hb6
            clear hown' hgrow hg' hb6
            go_wp2
            go_roundw
            case rel => exact ⟨i + 1, k + 1, A6, c6, _, rfl, by go_num, by omega, hkx, hid (by rw [List.length_append, hLk.out]; rfl), hrow6, hnx, HB6⟩
            case measure => simp [RowKit.intOf]; omega
          · have hm2 := HM.out
            have hgx : tgo d s b m n PS [] = ([], e2) := by rw [HSP.out, hstp.out]; simp [tgo, HR2.out, h2]
            rw [hgx] at hm2
            obtain rfl : R = ([], e2) := by rw [hm2, if_pos h2]
            clear hm2 hgx
            go_wp2
            go_ret2
            exact ⟨⟨_, rfl, World.ownsRow_nil _ _ _ _⟩, HK1.out.b.trans (HBC.out.mono (by omega))⟩
      · have hltz : ¬ (i : Int) < (PS.length : Int) := by omega
        have hgo2 := hgo.out
        rw [List.take_of_length_le (by omega)] at hgo2
        have hm2 := HM.out
        rw [hgo2] at hm2
        simp only [ne_eq, not_true, if_false, hLk.out] at hm2
        have HM2 := hid hm2
        clear hm2 hgo2
        by_cases h24 : 24 < k
        · have h24z : (24 : Int) < (k : Int) := by omega
          obtain rfl : R = ([], 2) := by rw [HM2.out, if_pos h24]
          go_wp2
          go_ret2
          exact ⟨⟨_, rfl, World.ownsRow_nil _ _ _ _⟩, HK1.out.b.trans (hB.out.mono (by omega))⟩
        · have h24z : ¬ (24 : Int) < (k : Int) := by omega
          obtain rfl : R = (L, 0) := by rw [HM2.out, if_neg h24]
          have HRW : Hid (TimeRow wr w.heap.size (.slice Ao k co) L) := hid (rowLow hrow.out (by omega))
          go_wp2
          go_ret2
          exact ⟨⟨_, rfl, HRW.out⟩, HK1.out.b.trans (hB.out.mono (by omega))⟩
  · have : x.size = 0 := by omega
    obtain ⟨x1, x2, x3, x4⟩ := str_yes h0
    have hM : timesM d s b m n (lst x) = ([], 0) := by unfold timesM; rw [if_pos (lst_nil h0)]
    rw [hM]
    have HB := hid HK.out.b
    clear hM HK HE h0
    go_enter Tryz.func74, Tryz.ntmps74
    go_wp2
    go_ret2
    exact ⟨⟨_, rfl, World.ownsRow_nil _ _ _ _⟩, HB.out⟩
theorem loadP {w : World} {k : Nat} {x y z u : Value} (h : w.heap[k]? = some (.cells #[x, y, z, u] 79 (0, 0))) : (loadVar 79 ⟨k, 0, none⟩).run Tryz.prog w = .ok (.agg #[x, y, z, u]) w := by
  have h0 : w.cell? ⟨k, 0, none⟩ = some x := by rw [Lib.cell_of_heap h]; rfl
  have h1 : w.cell? ⟨k, 1, none⟩ = some y := by rw [Lib.cell_of_heap h]; rfl
  have h2 : w.cell? ⟨k, 2, none⟩ = some z := by rw [Lib.cell_of_heap h]; rfl
  have h3 : w.cell? ⟨k, 3, none⟩ = some u := by rw [Lib.cell_of_heap h]; rfl
  simp [loadVar, go_sem, h0, h1, h2, h3]
structure ProbAt (w0 w : World) (R : Nat) (a b c d : Value) : Prop where
  h : w.heap[R]? = some (.cells #[a, b, c, d] 79 (0, 0))
  b : Below w0.heap.size w0 w
  z : w0.heap.size ≤ R
theorem ProbAt.set {w0 w : World} {R : Nat} {a b c d : Value} (h : ProbAt w0 w R a b c d) (a' b' c' d' : Value) :
    ProbAt w0 ((((w.setCell ⟨R, 0, none⟩ a').setCell ⟨R, 1, none⟩ b').setCell ⟨R, 2, none⟩ c').setCell ⟨R, 3, none⟩ d') R a' b' c' d' := by
  refine ⟨?_, (((h.b.setCell (p := ⟨R, 0, none⟩) h.z a').setCell (p := ⟨R, 1, none⟩) h.z b').setCell (p := ⟨R, 2, none⟩) h.z c').setCell (p := ⟨R, 3, none⟩) h.z d', h.z⟩
  have h0 := heap_setCell_same w R 0 _ _ a' h.h
  have h1 := heap_setCell_same _ R 1 _ _ b' h0
  have h2 := heap_setCell_same _ R 2 _ _ c' h1
  have h3 := heap_setCell_same _ R 3 _ _ d' h2
  rw [h3]
  rfl
theorem ProbAt.free {w0 w : World} {R : Nat} {a b c d : Value} (h : ProbAt w0 w R a b c d) (j : Nat) : w.frozen? ⟨R, j, none⟩ = false := by simp [World.frozen?, h.h]
theorem ProbAt.next {w0 w w' : World} {R : Nat} {a b c d : Value} (h : ProbAt w0 w R a b c d) (k : Below w.heap.size w w') : ProbAt w0 w' R a b c d :=
  ⟨(k.block R (Array.getElem?_eq_some_iff.1 h.h).1).trans h.h, h.b.trans (k.mono h.b.size), h.z⟩
def FoundOut (v : Value) (w : World) (e : Ending) (w' : World) : Prop := e = .returned v ∧ Below w.heap.size w w'
set_option maxHeartbeats 4000000 in
theorem whole_any (line e0 : Int) (A : Option Addr) (F c : Nat) (w : World) :
    Calls Tryz.prog 75 #[.agg #[.int .i64 line, .slice A F c], .int .i64 e0] w (FoundOut (.agg #[.int .i64 0, .int .i64 line, .int .i64 0, .int .i64 e0]) w) := by
  have hb1 := (Below.refl w.heap.size w).alloc (Nat.le_refl _) (.cells #[.int .i64 line, .slice A F c] 42)
  have e1 := heap_alloc_new w (.cells #[.int .i64 line, .slice A F c] 42)
  have hs1 : (w.alloc (.cells #[.int .i64 line, .slice A F c] 42)).heap.size = w.heap.size + 1 := by simp
  obtain ⟨w1, hw1⟩ : ∃ w1, w.alloc (.cells #[.int .i64 line, .slice A F c] 42) = w1 := ⟨_, rfl⟩
  rw [hw1] at hb1 e1 hs1
  have hb2 := (Below.refl w1.heap.size w1).alloc (Nat.le_refl _) (.cells #[.int .i64 0, .int .i64 0, .int .i64 0, .int .i64 0] 79)
  have hp : ProbAt w (w1.alloc (.cells #[.int .i64 0, .int .i64 0, .int .i64 0, .int .i64 0] 79)) w1.heap.size (.int .i64 0) (.int .i64 0) (.int .i64 0) (.int .i64 0) := ⟨heap_alloc_new w1 _, hb1.trans (hb2.mono hb1.size), hb1.size⟩
  have hx0 : (w1.alloc (.cells #[.int .i64 0, .int .i64 0, .int .i64 0, .int .i64 0] 79)).heap[w.heap.size]? = some (.cells #[.int .i64 line, .slice A F c] 42 (0, 0)) := (hb2.block _ (by omega)).trans e1
  obtain ⟨w2, hw2⟩ : ∃ w2, w1.alloc (.cells #[.int .i64 0, .int .i64 0, .int .i64 0, .int .i64 0] 79) = w2 := ⟨_, rfl⟩
  rw [hw2, hs1] at hp
  rw [hw2] at hx0
  have y0 : w2.cell? ⟨w.heap.size, 0, none⟩ = some (.int .i64 line) := by rw [Lib.cell_of_heap hx0]; rfl
  have HP := hid hp
  have f0 := hp.free 0
  have f1 := hp.free 1
  have f2 := hp.free 2
  have f3 := hp.free 3
  have z0 : w2.cell? ⟨w.heap.size + 1, 0, none⟩ = some (.int .i64 0) := by rw [Lib.cell_of_heap hp.h]; rfl
  have z1 : w2.cell? ⟨w.heap.size + 1, 1, none⟩ = some (.int .i64 0) := by rw [Lib.cell_of_heap hp.h]; rfl
  have z2 : w2.cell? ⟨w.heap.size + 1, 2, none⟩ = some (.int .i64 0) := by rw [Lib.cell_of_heap hp.h]; rfl
  have z3 : w2.cell? ⟨w.heap.size + 1, 3, none⟩ = some (.int .i64 0) := by rw [Lib.cell_of_heap hp.h]; rfl
  clear hp hx0 hb1 hb2 e1
  go_enter Tryz.func75, Tryz.ntmps75
  go_upto_region 1 with fail
  (try rw [hw1])
  (try rw [hw2])
  go_wp2
  refine bodyPost_ret (v := .agg #[.int .i64 0, .int .i64 line, .int .i64 0, .int .i64 e0]) (results_c rfl _ _ _ ⟨w.heap.size + 1, 0, none⟩ _ rfl (loadP (HP.out.set _ _ _ _).h)) rfl ⟨rfl, (HP.out.set _ _ _ _).b⟩
set_option maxHeartbeats 4000000 in
theorem at_any (line e0 : Int) (k : Nat) (A : Option Addr) (fs : List FieldD) (c : Nat) (w : World) (h : FieldsIn w (fun b => b < w.heap.size) A fs) (hk : k < fs.length) (hk5 : k < 5) :
    Calls Tryz.prog 76 #[.agg #[.int .i64 line, .slice A fs.length c], .int .i64 (k : Int), .int .i64 e0] w (FoundOut (.agg #[.int .i64 0, .int .i64 line, .int .i64 fs[k].2.1, .int .i64 e0]) w) := by
  have hb1 := (Below.refl w.heap.size w).alloc (Nat.le_refl _) (.cells #[.int .i64 line, .slice A fs.length c] 42)
  have e1 := heap_alloc_new w (.cells #[.int .i64 line, .slice A fs.length c] 42)
  have hs1 : (w.alloc (.cells #[.int .i64 line, .slice A fs.length c] 42)).heap.size = w.heap.size + 1 := by simp
  obtain ⟨w1, hw1⟩ : ∃ w1, w.alloc (.cells #[.int .i64 line, .slice A fs.length c] 42) = w1 := ⟨_, rfl⟩
  rw [hw1] at hb1 e1 hs1
  have hb2 := (Below.refl w1.heap.size w1).alloc (Nat.le_refl _) (.cells #[.int .i64 0, .int .i64 0, .int .i64 0, .int .i64 0] 79)
  have hp : ProbAt w (w1.alloc (.cells #[.int .i64 0, .int .i64 0, .int .i64 0, .int .i64 0] 79)) w1.heap.size (.int .i64 0) (.int .i64 0) (.int .i64 0) (.int .i64 0) := ⟨heap_alloc_new w1 _, hb1.trans (hb2.mono hb1.size), hb1.size⟩
  have hx0 : (w1.alloc (.cells #[.int .i64 0, .int .i64 0, .int .i64 0, .int .i64 0] 79)).heap[w.heap.size]? = some (.cells #[.int .i64 line, .slice A fs.length c] 42 (0, 0)) := (hb2.block _ (by omega)).trans e1
  obtain ⟨w2, hw2⟩ : ∃ w2, w1.alloc (.cells #[.int .i64 0, .int .i64 0, .int .i64 0, .int .i64 0] 79) = w2 := ⟨_, rfl⟩
  rw [hw2, hs1] at hp
  rw [hw2] at hx0
  obtain ⟨b, off, rfl, hb, _, hcol, _⟩ := (h.below hp.b).at_ hk
  obtain ⟨col, hc⟩ : ∃ col, fs[k].2.1 = col := ⟨_, rfl⟩
  rw [hc] at hcol
  obtain ⟨F, hF⟩ : ∃ F, fs.length = F := ⟨_, rfl⟩
  simp only [hF] at hw1 hx0 e1 hk
  rw [hF, hc]
  have y0 : w2.cell? ⟨w.heap.size, 0, none⟩ = some (.int .i64 line) := by rw [Lib.cell_of_heap hx0]; rfl
  have y1 : w2.cell? ⟨w.heap.size, 1, none⟩ = some (.slice (some ⟨b, off, none⟩) F c) := by rw [Lib.cell_of_heap hx0]; rfl
  have HP := hid hp
  have f0 := hp.free 0
  have f1 := hp.free 1
  have f2 := hp.free 2
  have f3 := hp.free 3
  have z0 : w2.cell? ⟨w.heap.size + 1, 0, none⟩ = some (.int .i64 0) := by rw [Lib.cell_of_heap hp.h]; rfl
  have z1 : w2.cell? ⟨w.heap.size + 1, 1, none⟩ = some (.int .i64 0) := by rw [Lib.cell_of_heap hp.h]; rfl
  have z2 : w2.cell? ⟨w.heap.size + 1, 2, none⟩ = some (.int .i64 0) := by rw [Lib.cell_of_heap hp.h]; rfl
  have z3 : w2.cell? ⟨w.heap.size + 1, 3, none⟩ = some (.int .i64 0) := by rw [Lib.cell_of_heap hp.h]; rfl
  have hkz : (k : Int) < (F : Int) := by omega
  have hkd : decide (F ≤ k) = false := decide_eq_false (by omega)
  clear hp hx0 hb1 hb2 e1 h hc hF
  go_enter Tryz.func76, Tryz.ntmps76
  go_upto_region 1 with fail
  (try rw [hw1])
  (try rw [hw2])
  go_region
  all_goals
    go_wp2
    refine bodyPost_ret (v := .agg #[.int .i64 0, .int .i64 line, .int .i64 col, .int .i64 e0]) (results_c rfl _ _ _ ⟨w.heap.size + 1, 0, none⟩ _ rfl (loadP (HP.out.set _ _ _ _).h)) rfl ⟨rfl, (HP.out.set _ _ _ _).b.drew⟩
theorem Found_box (line : Int) (A : Option Addr) (F c : Nat) (w : World) : ∃ w1 w2, w.alloc (.cells #[.int .i64 line, .slice A F c] 42) = w1 ∧ w1.alloc (.cells #[.int .i64 0, .int .i64 0, .int .i64 0, .int .i64 0] 79) = w2 ∧ w1.heap.size = w.heap.size + 1 ∧
    ProbAt w w2 (w.heap.size + 1) (.int .i64 0) (.int .i64 0) (.int .i64 0) (.int .i64 0) ∧ w2.heap[w.heap.size]? = some (.cells #[.int .i64 line, .slice A F c] 42 (0, 0)) := by
  have hb1 := (Below.refl w.heap.size w).alloc (Nat.le_refl _) (.cells #[.int .i64 line, .slice A F c] 42)
  have e1 := heap_alloc_new w (.cells #[.int .i64 line, .slice A F c] 42)
  have hs1 : (w.alloc (.cells #[.int .i64 line, .slice A F c] 42)).heap.size = w.heap.size + 1 := by simp
  generalize w.alloc (.cells #[.int .i64 line, .slice A F c] 42) = w1 at hb1 e1 hs1 ⊢
  have hb2 := (Below.refl w1.heap.size w1).alloc (Nat.le_refl _) (.cells #[.int .i64 0, .int .i64 0, .int .i64 0, .int .i64 0] 79)
  have hn := heap_alloc_new w1 (.cells #[.int .i64 0, .int .i64 0, .int .i64 0, .int .i64 0] 79)
  rw [hs1] at hn
  exact ⟨w1, _, rfl, rfl, hs1, ⟨hn, hb1.trans (hb2.mono hb1.size), by omega⟩, (hb2.block _ (by omega)).trans e1⟩
set_option maxHeartbeats 4000000 in
theorem foundW_any (line e0 : Int) (A : Option Addr) (F c : Nat) (w : World) :
    Calls Tryz.prog 51 #[.agg #[.int .i64 line, .slice A F c], .int .i64 (-1), .int .i64 e0] w (FoundOut (.agg #[.int .i64 0, .int .i64 line, .int .i64 0, .int .i64 e0]) w) := by
  obtain ⟨w1, w2, hw1, hw2, hs1, hp, hx0⟩ := Found_box line A F c w
  have y0 : w2.cell? ⟨w.heap.size, 0, none⟩ = some (.int .i64 line) := by rw [Lib.cell_of_heap hx0]; rfl
  have y1 : w2.cell? ⟨w.heap.size, 1, none⟩ = some (.slice A F c) := by rw [Lib.cell_of_heap hx0]; rfl
  have cW := hid (whole_any line e0 A F c w2)
  have HP := hid hp
  clear hp hx0
  go_enter Tryz.func51, Tryz.ntmps51
  go_upto_region 2 with fail
  (try rw [hw1])
  (try rw [hw2])
  go_wp2_with fail
  refine cW.out.mono ?_
  rintro e w3 ⟨rfl, hb3⟩
  have hp3 := HP.out.next hb3
  have HP3 := hid hp3
  have f0 := hp3.free 0
  have f1 := hp3.free 1
  have f2 := hp3.free 2
  have f3 := hp3.free 3
  have z0 : w3.cell? ⟨w.heap.size + 1, 0, none⟩ = some (.int .i64 0) := by rw [Lib.cell_of_heap hp3.h]; rfl
  have z1 : w3.cell? ⟨w.heap.size + 1, 1, none⟩ = some (.int .i64 0) := by rw [Lib.cell_of_heap hp3.h]; rfl
  have z2 : w3.cell? ⟨w.heap.size + 1, 2, none⟩ = some (.int .i64 0) := by rw [Lib.cell_of_heap hp3.h]; rfl
  have z3 : w3.cell? ⟨w.heap.size + 1, 3, none⟩ = some (.int .i64 0) := by rw [Lib.cell_of_heap hp3.h]; rfl
  clear hp3 hb3 cW HP y0 y1
  go_wp2
  refine bodyPost_ret (v := .agg #[.int .i64 0, .int .i64 line, .int .i64 0, .int .i64 e0]) (results_c rfl _ _ _ ⟨w.heap.size + 1, 0, none⟩ _ rfl (loadP (HP3.out.set _ _ _ _).h)) rfl ⟨rfl, (HP3.out.set _ _ _ _).b⟩
set_option maxHeartbeats 4000000 in
theorem foundA_any (line e0 : Int) (k : Nat) (A : Option Addr) (fs : List FieldD) (c : Nat) (w : World) (h : FieldsIn w (fun b => b < w.heap.size) A fs) (hk : k < fs.length) (hk5 : k < 5) :
    Calls Tryz.prog 51 #[.agg #[.int .i64 line, .slice A fs.length c], .int .i64 (k : Int), .int .i64 e0] w (FoundOut (.agg #[.int .i64 0, .int .i64 line, .int .i64 fs[k].2.1, .int .i64 e0]) w) := by
  obtain ⟨w1, w2, hw1, hw2, hs1, hp, hx0⟩ := Found_box line A fs.length c w
  have hz := hp.b.size
  have cA := at_any line e0 k A fs c w2 ((h.below hp.b).mono (fun b hb => Nat.lt_of_lt_of_le hb hz)) hk hk5
  obtain ⟨col, hc⟩ : ∃ col, fs[k].2.1 = col := ⟨_, rfl⟩
  rw [hc] at cA
  obtain ⟨F, hF⟩ : ∃ F, fs.length = F := ⟨_, rfl⟩
  rw [hF] at hw1 hx0 cA
  rw [hF, hc]
  have y0 : w2.cell? ⟨w.heap.size, 0, none⟩ = some (.int .i64 line) := by rw [Lib.cell_of_heap hx0]; rfl
  have y1 : w2.cell? ⟨w.heap.size, 1, none⟩ = some (.slice A F c) := by rw [Lib.cell_of_heap hx0]; rfl
  have CA := hid cA
  have HP := hid hp
  have hkz : ¬ (k : Int) < 0 := by omega
  clear hp hx0 cA h hc hF hk
  go_enter Tryz.func51, Tryz.ntmps51
  go_upto_region 3 with fail
  (try rw [hw1])
  (try rw [hw2])
  go_wp2_with fail
  refine CA.out.mono ?_
  rintro e w3 ⟨rfl, hb3⟩
  have hp3 := HP.out.next hb3
  have HP3 := hid hp3
  have f0 := hp3.free 0
  have f1 := hp3.free 1
  have f2 := hp3.free 2
  have f3 := hp3.free 3
  have z0 : w3.cell? ⟨w.heap.size + 1, 0, none⟩ = some (.int .i64 0) := by rw [Lib.cell_of_heap hp3.h]; rfl
  have z1 : w3.cell? ⟨w.heap.size + 1, 1, none⟩ = some (.int .i64 0) := by rw [Lib.cell_of_heap hp3.h]; rfl
  have z2 : w3.cell? ⟨w.heap.size + 1, 2, none⟩ = some (.int .i64 0) := by rw [Lib.cell_of_heap hp3.h]; rfl
  have z3 : w3.cell? ⟨w.heap.size + 1, 3, none⟩ = some (.int .i64 0) := by rw [Lib.cell_of_heap hp3.h]; rfl
  clear hp3 hb3 CA HP y0 y1
  go_wp2
  refine bodyPost_ret (v := .agg #[.int .i64 0, .int .i64 line, .int .i64 col, .int .i64 e0]) (results_c rfl _ _ _ ⟨w.heap.size + 1, 0, none⟩ _ rfl (loadP (HP3.out.set _ _ _ _).h)) rfl ⟨rfl, (HP3.out.set _ _ _ _).b⟩
end Go.Proofs.YtnpfmoalgphkcaaGreatDoor
namespace Go.Proofs.YtnpfmoalgphkcaaGreatDoor.S9
open Go Go.Proofs Go.RowKit Go.Lib Go.Proofs.YtnpfmoalgphkcaaGreatDoor
theorem entry2 (d s b m n : Int) (f0 f1 : FieldD) :
    (S3.validC f0.1 = false → (entryM d s b m n [f0, f1]).2 = (f0.2.1, 10)) ∧
    (S3.validC f0.1 = true → (timesM d s b m n f1.1).2 ≠ 0 → (entryM d s b m n [f0, f1]).2 = (f1.2.1, (timesM d s b m n f1.1).2)) ∧
    (S3.validC f0.1 = true → (timesM d s b m n f1.1).2 = 0 → entryM d s b m n [f0, f1] = ((f0.1, (timesM d s b m n f1.1).1), 0, 0)) := by
  refine ⟨?_, ?_, ?_⟩
  all_goals
    intros
    simp_all [entryM, efold, setF, zeroR]
theorem recM_err {d s b m n : Int} {st : List LectD × List ProbD} {line col e : Int} {fs : List FieldD} (h : (entryM d s b m n fs).2 = (col, e)) (he : e ≠ 0) : recM d s b m n st (line, fs) = (st.1, st.2 ++ [(line, col, e)]) := by
  unfold recM
  dsimp only
  rw [h, if_pos he]
theorem recM_add {d s b m n : Int} {st : List LectD × List ProbD} {line : Int} {fs : List FieldD} {r : LectD} (h : entryM d s b m n fs = (r, 0, 0)) : recM d s b m n st (line, fs) = if addC st.1 r.1 ≠ 0 then (st.1, st.2 ++ [(line, 0, addC st.1 r.1)]) else (st.1 ++ [r], st.2) := by
  unfold recM
  dsimp only
  rw [h]
  simp
def LectOut (d s b m n : Int) (l : List LectD) (line : Int) (fs : List FieldD) (w : World) (e : Ending) (w' : World) : Prop :=
  (∃ (r : LectD) (q : LectA) (k e0 : Int), e = .returned (.tuple #[lectV r q, .int .i64 k, .int .i64 e0]) ∧
    ((e0 ≠ 0 ∧ k = -1 ∧ ∀ ps, recM d s b m n (l, ps) (line, fs) = (l, ps ++ [(line, 0, e0)])) ∨
     (e0 ≠ 0 ∧ (∃ (j : Nat) (hj : j < fs.length), j < 5 ∧ k = (j : Int) ∧ ∀ ps, recM d s b m n (l, ps) (line, fs) = (l, ps ++ [(line, fs[j].2.1, e0)]))) ∨
     (e0 = 0 ∧ (∀ ps, recM d s b m n (l, ps) (line, fs) = (l ++ [r], ps)) ∧ LectIn w' (fun i => w.heap.size ≤ i ∧ i < w'.heap.size) r q))) ∧ Below w.heap.size w w'
theorem one_end {w W : World} {a : Act} {P : Ending → World → Prop} {k e0 : Int} {v0 v1 : Value} (hp : a.tmps.getD 8 undef = .pointer (some ⟨w.heap.size + 1 + 1, 0, none⟩)) (hk : a.tmps.getD 9 undef = .int .i64 k) (he : a.tmps.getD 10 undef = .int .i64 e0) (hd : a.defers = [])
    (hz : Box2 W (w.heap.size + 1 + 1) v0 v1) (hP : P (.returned (.tuple #[.agg #[v0, v1], .int .i64 k, .int .i64 e0])) W) : bodyPost Tryz.prog Tryz.f50 P Exit.ret a W :=
  bodyPost_ret (v := .tuple #[.agg #[v0, v1], .int .i64 k, .int .i64 e0]) (results_ctt rfl _ _ _ ⟨w.heap.size + 1 + 1, 0, none⟩ _ _ _ hp hk he (load2 hz.cells)) hd hP
structure OK (w0 : World) (v : Value) (d s b m : Int) (v0 v1 : Value) (W : World) : Prop where
  x : W.cell? ⟨w0.heap.size, 1, none⟩ = some v
  g : Box4 W (w0.heap.size + 1) d s b m
  z : Box2 W (w0.heap.size + 1 + 1) (.string ⟨#[]⟩) (.slice none 0 0)
  r : Box2 W (w0.heap.size + 1 + 1 + 1) v0 v1
  bw : Below w0.heap.size w0 W
section
variable {w0 W W' : World} {v : Value} {d s b m : Int} {v0 v1 : Value}
theorem OK.next (h : OK w0 v d s b m v0 v1 W) (k : Below W.heap.size W W') : OK w0 v d s b m v0 v1 W' :=
  ⟨(k.cell (p := ⟨w0.heap.size, 1, none⟩) (by have := h.r.lt; show w0.heap.size < _; omega)).trans h.x, h.g.next k h.g.lt, h.z.next k, h.r.next k, h.bw.trans (k.mono h.bw.size)⟩
theorem OK.put1 (h : OK w0 v d s b m v0 v1 W) (u : Value) : OK w0 v d s b m v0 u (W.setCell ⟨w0.heap.size + 1 + 1 + 1, 1, none⟩ u) := by
  have k : Below (w0.heap.size + 1 + 1 + 1) W (W.setCell ⟨w0.heap.size + 1 + 1 + 1, 1, none⟩ u) := (Below.refl _ W).setCell (p := ⟨w0.heap.size + 1 + 1 + 1, 1, none⟩) (Nat.le_refl _) u
  exact ⟨(k.cell (p := ⟨w0.heap.size, 1, none⟩) (by show w0.heap.size < _; omega)).trans h.x, h.g.next k (by omega), h.z.below k (by omega), Box2.put1 h.r u, h.bw.trans (k.mono (by omega))⟩
theorem OK.fin (h : OK w0 v d s b m v0 v1 W) (u0 u1 : Value) : Below w0.heap.size w0 ((W.setCell ⟨w0.heap.size + 1 + 1, 0, none⟩ u0).setCell ⟨w0.heap.size + 1 + 1, 1, none⟩ u1) :=
  (h.bw.setCell (p := ⟨w0.heap.size + 1 + 1, 0, none⟩) (by show w0.heap.size ≤ w0.heap.size + 1 + 1; omega) u0).setCell (p := ⟨w0.heap.size + 1 + 1, 1, none⟩) (by show w0.heap.size ≤ w0.heap.size + 1 + 1; omega) u1
end
theorem two_else (W : World) (R k : Nat) (hk : k ≠ R) (u0 u1 : Value) : ((W.setCell ⟨R, 0, none⟩ u0).setCell ⟨R, 1, none⟩ u1).heap[k]? = W.heap[k]? := by
  rw [Below.heap_setCell _ ⟨R, 1, none⟩ _ k hk, Below.heap_setCell _ ⟨R, 0, none⟩ _ k hk]
theorem two_size (W : World) (R : Nat) (u0 u1 : Value) : ((W.setCell ⟨R, 0, none⟩ u0).setCell ⟨R, 1, none⟩ u1).heap.size = W.heap.size := by simp [World.setCell]
set_option maxHeartbeats 16000000 in
set_option maxRecDepth 100000 in
theorem oneW_any (d s b m n line : Int) (A' : Option Addr) (fs : List FieldD) (c' : Nat) (Ar : Option Addr) (l : List LectD) (cr : Nat) (w : World) (h5 : fs.length ≠ 2) :
    Calls Tryz.prog 50 #[.agg #[.int .i64 line, .slice A' fs.length c'], .agg #[.int .i64 d, .int .i64 s, .int .i64 b, .int .i64 m], .int .i64 n, .slice Ar l.length cr] w (LectOut d s b m n l line fs w) := by
  have hrec : Hid (∀ ps, recM d s b m n (l, ps) (line, fs) = (l, ps ++ [(line, 0, 9)])) := hid (fun ps => recM_err (by unfold entryM; rw [if_pos h5]) (by decide))
  obtain ⟨F, hF⟩ : ∃ F, fs.length = F := ⟨_, rfl⟩
  rw [hF] at h5 ⊢
  have hn5 : ((F : Int) != 2) = true := by simp; omega
  obtain ⟨L, hL⟩ : ∃ L, l.length = L := ⟨_, rfl⟩
  rw [hL]
  clear hF hL h5
  go_enter Tryz.func50, Tryz.ntmps50
  go_wp2
  have hz : Box2 (((w.alloc (.cells #[.int .i64 line, .slice A' F c'] 42)).alloc (.cells #[.int .i64 d, .int .i64 s, .int .i64 b, .int .i64 m] 24)).alloc (.cells #[.string ⟨#[]⟩, .slice none 0 0] 34)) (w.heap.size + 1 + 1) (.string ⟨#[]⟩) (.slice none 0 0) := by
    simpa using Box2.new ((w.alloc (.cells #[.int .i64 line, .slice A' F c'] 42)).alloc (.cells #[.int .i64 d, .int .i64 s, .int .i64 b, .int .i64 m] 24)) (.string ⟨#[]⟩) (.slice none 0 0)
  exact one_end (w := w) rfl rfl rfl rfl hz ⟨⟨zeroR, (none, 0), -1, 9, rfl, .inl ⟨by decide, rfl, hrec.out⟩⟩, (((Below.refl _ w).alloc (Nat.le_refl _) _).alloc (by simp) _).alloc (by simp; omega) _⟩
set_option maxHeartbeats 16000000 in
set_option maxRecDepth 100000 in
theorem one2_any (d s b m n line : Int) (A' : Option Addr) (x0 x1 : FieldD) (c' : Nat) (Ar : Option Addr) (l : List LectD) (cr : Nat) (w : World)
    (hf : FieldsIn w (fun k => k < w.heap.size) A' [x0, x1]) (hr : LectsIn w (fun k => k < w.heap.size) Ar l) (hl : l.length ≤ 32) (hsz : ∀ f ∈ [x0, x1], f.1.length ≤ 2097152) (hE : REnv7 w) :
    Calls Tryz.prog 50 #[.agg #[.int .i64 line, .slice A' 2 c'], .agg #[.int .i64 d, .int .i64 s, .int .i64 b, .int .i64 m], .int .i64 n, .slice Ar l.length cr] w (LectOut d s b m n l line [x0, x1] w) := by
  obtain ⟨q1, q2, q3⟩ := entry2 d s b m n x0 x1
  have Q1 := hid q1
  have Q2 := hid q2
  have Q3 := hid q3
  obtain ⟨fb, fo, rfl, hfb, hcells⟩ : ∃ fb fo, A' = some ⟨fb, fo, none⟩ ∧ fb < w.heap.size ∧ ∀ (j : Nat) (t : FieldD), [x0, x1][j]? = some t → ∀ (i : Nat) (v : Value), (fieldVs t)[i]? = some v → w.cell? ⟨fb, fo + j * 3 + i, none⟩ = some v := by
    rcases hf with h | ⟨b, off, hA, hP, hc⟩
    · cases h
    · exact ⟨b, off, hA, hP, hc⟩
  obtain ⟨X0, hX0⟩ : ∃ X, ba x0.1 = X := ⟨_, rfl⟩
  obtain ⟨X1, hX1⟩ : ∃ X, ba x1.1 = X := ⟨_, rfl⟩
  have LX0 : Hid (lst X0 = x0.1) := hid (by rw [← hX0]; rfl)
  have LX1 : Hid (lst X1 = x1.1) := hid (by rw [← hX1]; rfl)
  have BX0 : Hid (ba x0.1 = X0) := hid hX0
  have hz1 : X1.size ≤ 2097152 := by rw [← hX1]; exact hsz x1 (by simp)
  have HF : Hid (∀ W, Below w.heap.size w W → W.cell? ⟨fb, fo, none⟩ = some (.string X0) ∧ W.cell? ⟨fb, fo + 3, none⟩ = some (.string X1)) := hid (fun W hb => by
    have k : ∀ o, W.cell? ⟨fb, o, none⟩ = w.cell? ⟨fb, o, none⟩ := fun o => hb.cell (p := ⟨fb, o, none⟩) hfb
    rw [k, k, ← hX0, ← hX1]
    exact ⟨hcells 0 x0 rfl 0 _ rfl, hcells 1 x1 rfl 0 _ rfl⟩)
  have HRI := hid hr
  have HE := hid hE
  obtain ⟨LN, hLN⟩ : ∃ L, l.length = L := ⟨_, rfl⟩
  have HLN := hid hLN
  rw [hLN] at hl ⊢
  obtain ⟨w3, hw3⟩ : ∃ w3, ((w.alloc (.cells #[.int .i64 line, .slice (some ⟨fb, fo, none⟩) 2 c'] 42)).alloc (.cells #[.int .i64 d, .int .i64 s, .int .i64 b, .int .i64 m] 24)).alloc (.cells #[.string ⟨#[]⟩, .slice none 0 0] 34) = w3 := ⟨_, rfl⟩
  obtain ⟨hx3, hg3, hzz3, hb3, hs3⟩ : w3.heap[w.heap.size]? = some (.cells #[.int .i64 line, .slice (some ⟨fb, fo, none⟩) 2 c'] 42 (0, 0)) ∧ Box4 w3 (w.heap.size + 1) d s b m ∧ Box2 w3 (w.heap.size + 1 + 1) (.string ⟨#[]⟩) (.slice none 0 0) ∧ Below w.heap.size w w3 ∧ w3.heap.size = w.heap.size + 1 + 1 + 1 := by
    rw [← hw3]
    have hb1 := (Below.refl w.heap.size w).alloc (Nat.le_refl _) (.cells #[.int .i64 line, .slice (some ⟨fb, fo, none⟩) 2 c'] 42)
    have e1 := heap_alloc_new w (.cells #[.int .i64 line, .slice (some ⟨fb, fo, none⟩) 2 c'] 42)
    have hs1 : (w.alloc (.cells #[.int .i64 line, .slice (some ⟨fb, fo, none⟩) 2 c'] 42)).heap.size = w.heap.size + 1 := by simp
    generalize w.alloc (.cells #[.int .i64 line, .slice (some ⟨fb, fo, none⟩) 2 c'] 42) = u1 at hb1 e1 hs1 ⊢
    have g2 := Box4.new u1 d s b m 24
    have hb2 := (Below.refl u1.heap.size u1).alloc (Nat.le_refl _) (.cells #[.int .i64 d, .int .i64 s, .int .i64 b, .int .i64 m] 24)
    have hs2 : (u1.alloc (.cells #[.int .i64 d, .int .i64 s, .int .i64 b, .int .i64 m] 24)).heap.size = u1.heap.size + 1 := by simp
    generalize u1.alloc (.cells #[.int .i64 d, .int .i64 s, .int .i64 b, .int .i64 m] 24) = u2 at hb2 g2 hs2 ⊢
    have g3 := Box2.new u2 (.string ⟨#[]⟩) (.slice none 0 0)
    have hbx := (Below.refl u2.heap.size u2).alloc (Nat.le_refl _) (.cells #[.string ⟨#[]⟩, .slice none 0 0] 34)
    refine ⟨(hbx.block _ (by omega)).trans ((hb2.block _ (by omega)).trans e1), ?_, ?_, hb1.trans ((hb2.trans (hbx.mono (by omega))).mono (by omega)), by simp [hs1, hs2]⟩
    · rw [← hs1]; exact g2.next hbx (by omega)
    · rw [← hs1, ← hs2]; exact g3
  have hw1 : w3.cell? ⟨w.heap.size, 1, none⟩ = some (.slice (some ⟨fb, fo, none⟩) 2 c') := by rw [Lib.cell_of_heap hx3]; rfl
  obtain ⟨y0, -⟩ := HF.out w3 hb3
  have hbb := (Below.refl w3.heap.size w3).alloc (Nat.le_refl _) (.cells #[.string X0, .slice none 0 0] 34)
  have hrr := Box2.new w3 (.string X0) (.slice none 0 0)
  rw [hs3] at hrr
  have hk4 : OK w (.slice (some ⟨fb, fo, none⟩) 2 c') d s b m (.string X0) (.slice none 0 0) (w3.alloc (.cells #[.string X0, .slice none 0 0] 34)) :=
    ⟨(hbb.cell (p := ⟨w.heap.size, 1, none⟩) (by show w.heap.size < _; omega)).trans hw1, hg3.next hbb hg3.lt, hzz3.next hbb, hrr, hb3.trans (hbb.mono hb3.size)⟩
  have HK4 := hid hk4
  have HS3 := hid hs3
  have HW3 := hid hw3
  have cV0 := fun w => S3.refValid_any X0 w
  rw [show X0.data.toList = x0.1 from LX0.out] at cV0
  obtain ⟨V0, hV0⟩ : ∃ V, S3.validC x0.1 = V := ⟨_, rfl⟩
  rw [hV0] at cV0
  have HV0 := hid hV0
  have CV := hid cV0
  clear q1 q2 q3 hf hcells hX0 hX1 hr hE hLN hx3 hg3 hzz3 hb3 hsz hbb hrr hk4 cV0 hV0
  go_enter Tryz.func50, Tryz.ntmps50
  go_upto_region 3 with fail
  (try rw [hw3])
  have hfb3 : fb < w3.heap.size := by omega
  clear hw3 hs3
  go_wp2_with fail
  (try rw [HS3.out])
  clear hw1 y0
  generalize w3.alloc (.cells #[.string X0, .slice none 0 0] 34) = w4 at HK4 ⊢
  refine (CV.out w4).mono ?_
  rintro e w' ⟨rfl, rfl⟩
  cases V0 with
  | false =>
    have HEQ : Hid ((entryM d s b m n [x0, x1]).2 = (x0.2.1, 10)) := hid (Q1.out HV0.out)
    obtain ⟨y0, y1⟩ := HK4.out.r.cells
    obtain ⟨z0, z1⟩ := HK4.out.z.cells
    have f0 := HK4.out.z.free 0
    have f1 := HK4.out.z.free 1
    go_wp2
    refine one_end (w := w) rfl rfl rfl rfl (Box2.set HK4.out.z _ _) ⟨⟨(x0.1, []), (none, 0), (0 : Nat), 10, by rw [← BX0.out]; rfl, .inr (.inl ⟨by decide, ⟨0, by simp, by omega, rfl, fun ps => recM_err HEQ.out (by decide)⟩⟩)⟩, HK4.out.fin _ _⟩
  | true =>
  have hst4 := timesM_start d s b m n x1.1
  obtain ⟨⟨TL, e4⟩, hT⟩ : ∃ T, timesM d s b m n x1.1 = T := ⟨_, rfl⟩
  rw [hT] at hst4
  have cT : Hid (∀ wx, Below w.heap.size w wx → Calls Tryz.prog 74 #[.string X1, .agg #[.int .i64 d, .int .i64 s, .int .i64 b, .int .i64 m], .int .i64 n] wx fun e w' => (∃ v, e = .returned (.tuple #[v, .int .i64 e4]) ∧ TimeRow w' wx.heap.size v TL) ∧ Below wx.heap.size wx w') := hid (fun wx hx => by
    have h := rtimes_any d s b m n X1 hz1 wx (HE.out.below hx (Nat.le_refl _))
    rw [show lst X1 = x1.1 from LX1.out, hT] at h
    exact h)
  have HST := hid hst4
  have HT := hid hT
  obtain ⟨TN, hTN⟩ : ∃ TN, TL.length = TN := ⟨_, rfl⟩
  have HTN := hid hTN
  clear hst4 hT hTN
  have hk' := HK4.out.next (Below.refl _ w4).drew
  have hrl4 := HK4.out.r.lt
  obtain ⟨q0, q1⟩ := HF.out _ HK4.out.bw
  have qx := HK4.out.x
  obtain ⟨g0, g1, g2, g3, _⟩ := HK4.out.g
  go_upto_region 6 with fail
  go_region_held3 (fun w' => w'.cell? ⟨w.heap.size, 1, none⟩ = some (.slice (some ⟨fb, fo, none⟩) 2 c') ∧ w'.cell? ⟨w.heap.size + 1, 0, none⟩ = some (.int .i64 d) ∧ w'.cell? ⟨w.heap.size + 1, 1, none⟩ = some (.int .i64 s) ∧ w'.cell? ⟨w.heap.size + 1, 2, none⟩ = some (.int .i64 b) ∧ w'.cell? ⟨w.heap.size + 1, 3, none⟩ = some (.int .i64 m) ∧ w'.cell? ⟨fb, fo + 3, none⟩ = some (.string X1))
    (first | with_reducible exact ⟨hk'.x, hk'.g.c0, hk'.g.c1, hk'.g.c2, hk'.g.c3, (HF.out _ hk'.bw).2⟩)
    (first
      | (go_at_call 74; refine (cT.out _ hk'.bw).mono ?_; rintro e w' ⟨⟨v, rfl, hrow⟩, hb'⟩; have hk' := hk'.next hb'
         obtain ⟨A5, c5, rfl, h51, h52, h53⟩ := TimeRow.timesIn hrow HST.out
         have H53 := hid (h53.mono (P' := fun k => w.heap.size + 1 + 1 + 1 + 1 ≤ k ∧ k < w'.heap.size) (fun k hk => ⟨by have h1 : w4.heap.size ≤ k := hk.1; omega, hk.2⟩))
         have H51 := hid (And.intro h51 h52)
         rw [HTN.out] at H51 ⊢
         clear hrow hb' h53 h51 h52))
  all_goals
    have HK6 := hid hk'
    clear hk' q0 q1 qx g0 g1 g2 g3 hrl4
    by_cases he4 : e4 = 0
    · subst he4
      have HEN : Hid (entryM d s b m n [x0, x1] = ((x0.1, TL), 0, 0)) := hid (by
        have h := Q3.out HV0.out (by rw [HT.out])
        rw [HT.out] at h
        exact h)
      obtain ⟨p0, p1⟩ := HK6.out.r.cells
      have pf := HK6.out.r.free 1
      have hk7 := HK6.out.put1 (.slice A5 TN c5)
      obtain ⟨W7, hW7⟩ : ∃ W7, w'.setCell ⟨w.heap.size + 1 + 1 + 1, 1, none⟩ (.slice A5 TN c5) = W7 := ⟨_, rfl⟩
      have htm : TimesIn W7 (fun k => w.heap.size + 1 + 1 + 1 + 1 ≤ k ∧ k < W7.heap.size) A5 TL := by
        rw [← hW7]
        exact (H53.out.kept (fun k hk => Below.heap_setCell _ ⟨w.heap.size + 1 + 1 + 1, 1, none⟩ _ k (by show k ≠ w.heap.size + 1 + 1 + 1; have := hk.1; omega))).mono (fun k hk => ⟨hk.1, by simpa [World.setCell] using hk.2⟩)
      rw [hW7] at hk7
      have cI := rindex_any Ar l cr X0 W7 ((HRI.out.below hk7.bw).mono (fun k hk => Nat.lt_of_lt_of_le hk hk7.bw.size)) (by rw [HLN.out]; omega)
      rw [show lst X0 = x0.1 from LX0.out, HLN.out] at cI
      have hpos := idxG_pos (codesL l) x0.1
      obtain ⟨J, hJ⟩ : ∃ J, idxG (codesL l) x0.1 0 = J := ⟨_, rfl⟩
      rw [hJ] at cI hpos
      have CI := hid cI
      have HK7 := hid hk7
      have HTM := hid htm
      clear hk7 htm cI hJ
      by_cases hm : x0.1 ∈ codesL l
      · have hJ0 : 0 ≤ J := hpos.2 hm
        have hJd : decide (0 ≤ J) = true := decide_eq_true hJ0
        have HREC : Hid (∀ ps, recM d s b m n (l, ps) (line, [x0, x1]) = (l, ps ++ [(line, 0, 11)])) := hid (fun ps => by
          rw [recM_add HEN.out]
          have ha : addC l x0.1 = 11 := if_pos hm
          dsimp only
          rw [ha]
          rfl)
        clear hpos hm
        go_upto_region 10 with fail
        (try rw [hW7])
        clear p1 pf
        obtain ⟨y0, y1⟩ := HK7.out.r.cells
        obtain ⟨z0, z1⟩ := HK7.out.z.cells
        have f0 := HK7.out.z.free 0
        have f1 := HK7.out.z.free 1
        go_wp2_with fail
        refine CI.out.mono ?_
        rintro e w8 ⟨rfl, rfl⟩
        go_wp2
        refine one_end (w := w) rfl rfl rfl rfl (Box2.set HK7.out.z _ _) ⟨⟨(x0.1, TL), (A5, c5), -1, 11, by rw [← BX0.out, ← HTN.out]; rfl, .inl ⟨by decide, rfl, HREC.out⟩⟩, HK7.out.fin _ _⟩
      · have hJ0 : ¬ 0 ≤ J := fun h => hm (hpos.1 h)
        have hJd : decide (0 ≤ J) = false := decide_eq_false hJ0
        by_cases h16 : LN = 32
        · have h16b : ((LN : Int) == 32) = true := by rw [h16]; rfl
          have HREC : Hid (∀ ps, recM d s b m n (l, ps) (line, [x0, x1]) = (l, ps ++ [(line, 0, 2)])) := hid (fun ps => by
            rw [recM_add HEN.out]
            have ha : addC l x0.1 = 2 := by unfold addC; rw [if_neg hm, HLN.out, if_pos h16]
            dsimp only
            rw [ha]
            rfl)
          clear hpos hm h16
          go_upto_region 10 with fail
          (try rw [hW7])
          clear p1 pf
          obtain ⟨y0, y1⟩ := HK7.out.r.cells
          obtain ⟨z0, z1⟩ := HK7.out.z.cells
          have f0 := HK7.out.z.free 0
          have f1 := HK7.out.z.free 1
          go_wp2_with fail
          refine CI.out.mono ?_
          rintro e w8 ⟨rfl, rfl⟩
          go_wp2
          refine one_end (w := w) rfl rfl rfl rfl (Box2.set HK7.out.z _ _) ⟨⟨(x0.1, TL), (A5, c5), -1, 2, by rw [← BX0.out, ← HTN.out]; rfl, .inl ⟨by decide, rfl, HREC.out⟩⟩, HK7.out.fin _ _⟩
        · have h16b : ((LN : Int) == 32) = false := by rw [beq_eq_false_iff_ne]; omega
          have HREC : Hid (∀ ps, recM d s b m n (l, ps) (line, [x0, x1]) = (l ++ [(x0.1, TL)], ps)) := hid (fun ps => by
            rw [recM_add HEN.out]
            have ha : addC l x0.1 = 0 := by unfold addC; rw [if_neg hm, HLN.out, if_neg h16]
            dsimp only
            rw [ha]
            rfl)
          clear hpos hm h16
          go_upto_region 10 with fail
          (try rw [hW7])
          clear p1 pf
          obtain ⟨y0, y1⟩ := HK7.out.r.cells
          obtain ⟨z0, z1⟩ := HK7.out.z.cells
          have f0 := HK7.out.z.free 0
          have f1 := HK7.out.z.free 1
          go_wp2_with fail
          refine CI.out.mono ?_
          rintro e w8 ⟨rfl, rfl⟩
          go_wp2
          refine one_end (w := w) rfl rfl rfl rfl (Box2.set HK7.out.z _ _) ⟨⟨(x0.1, TL), (A5, c5), 0, 0, by rw [← BX0.out, ← HTN.out]; rfl, .inr (.inr ⟨rfl, HREC.out, ?_⟩)⟩, HK7.out.fin _ _⟩
          have hel := fun k (hk : k ≠ w.heap.size + 1 + 1) => two_else W7 (w.heap.size + 1 + 1) k hk (.string X0) (.slice A5 TN c5)
          have hes := two_size W7 (w.heap.size + 1 + 1) (.string X0) (.slice A5 TN c5)
          have hcc := H51.out
          rw [← HTN.out] at hcc
          exact ⟨(HTM.out.kept (fun k hk => hel k (by omega))).mono (fun k hk => ⟨by omega, by rw [hes]; exact hk.2⟩), hcc.1, hcc.2⟩
    · have hez : (e4 != 0) = true := by simpa using he4
      have HNE := hid he4
      have HEQ : Hid ((entryM d s b m n [x0, x1]).2 = (x1.2.1, e4)) := hid (by
        have h := Q2.out HV0.out (by rw [HT.out]; exact he4)
        rw [HT.out] at h
        exact h)
      clear he4
      obtain ⟨y0, y1⟩ := HK6.out.r.cells
      obtain ⟨z0, z1⟩ := HK6.out.z.cells
      have f0 := HK6.out.z.free 0
      have f1 := HK6.out.z.free 1
      go_wp2
      refine one_end (w := w) rfl rfl rfl rfl (Box2.set HK6.out.z _ _) ⟨⟨(x0.1, []), (none, 0), (1 : Nat), e4, by rw [← BX0.out]; rfl, .inr (.inl ⟨HNE.out, ⟨1, by simp, by omega, rfl, fun ps => recM_err HEQ.out HNE.out⟩⟩)⟩, HK6.out.fin _ _⟩
end Go.Proofs.YtnpfmoalgphkcaaGreatDoor.S9
