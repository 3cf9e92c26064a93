/-
  The text of a list of times: writeTimes of the program. Conditions: the times lie in memory, at most 24; the variables hold what their text lays.
  What the variables of the specification hold. No program.
  From a walk to a row, for every statement of this seat: a call that returns true and turns nothing that was there meets what a row asks. Condition: as the lemmas state.
  Records, problems in memory. No program beyond the types' facts.
-/
import Derived.Test.YtnpfmoalgphkcaaGreatDoorVA14
import Derived.Test.YtnpfmoalgphkcaaGreatDoorVA17
import Derived.Test.YtnpfmoalgphkcaaGreatDoorVA11
import Derived.Test.YtnpfmoalgphkcaaGreatDoorVA12
import Derived.Test.YtnpfmoalgphkcaaGreatDoorVA07
import Derived.Test.YtnpfmoalgphkcaaGreatDoorCards
import Derived.Test.YtnpfmoalgphkcaaGreatDoorTie
import Derived.Test.YtnpfmoalgphkcaaGreatDoorVA06
import Derived.Lib.SmallJoins
import Derived.SizedLaws
import Derived.Stop.LaidErr
import Derived.Deep.DeepWitnessRowRef
import Derived.WalkKit
import Derived.ProofKit
import Derived.OpenShut
import Derived.Deep.DeepHandedRow
import Derived.Deep.DeepLaidRun
import Derived.Lib.LaidU8
import Derived.Shelf.Vars
set_option linter.unusedVariables false
namespace Go.Proofs.YtnpfmoalgphkcaaGreatDoor
open Go Go.Proofs Go.RowKit Go.Lib

/-- What the package-level variables hold. -/
structure Env7 (w : World) : Prop where
  e : Env w
  s : S3.Env w
  d : Days w
theorem Env7.below {w w' : World} (h : Env7 w) {B : Nat} (hb : Below B w w') (hB : w.heap.size ≤ B) : Env7 w' := by
  have hsz := h.e.size
  have hb' : Below w.heap.size w w' := hb.mono hB
  exact ⟨h.e.below hb' hsz, h.s.below hb', h.d.below hb' hsz⟩
theorem timeS_len (d s b m n : Int) (t : TimeD) : (timeS d s b m n t).length ≤ 300 := by
  unfold timeS textT
  split
  · exact time_len
  · simp
theorem semi_len300 : ∀ (l : List Str), (∀ p ∈ l, p.length ≤ 300) → (S3.semi l).length ≤ 301 * l.length
  | [], _ => by simp [S3.semi]
  | [p], h => by have := h p (.head _); simp [S3.semi]; omega
  | p :: q :: r, h => by
    have ih := semi_len300 (q :: r) (fun x hx => h x (.tail _ hx))
    have := h p (.head _)
    show (p ++ 59 :: S3.semi (q :: r)).length ≤ _
    simp at ih ⊢
    omega
/-- Join of a slice of strings of the call's own. -/
theorem joinRow (A : Option Addr) (ps : List Str) (c B : Nat) (w : World) (h : S3.StrRow w B (.slice A ps.length c) ps) (hp : ∀ p ∈ ps, p.length ≤ 300) (hn : ps.length ≤ 1000) :
    Calls Tryz.prog 78 #[.slice A ps.length c, .string ⟨#[59]⟩] w fun e w' => e = .returned (.string (ba (S3.semi ps))) ∧ Below w.heap.size w w' := by
  obtain ⟨A5, c5, eA, hl5, hc5, hI5⟩ := h.strsIn
  obtain ⟨rfl, rfl⟩ : A = A5 ∧ c = c5 := by injection eA with e1 _ e3; exact ⟨e1, e3⟩
  rcases hI5 with h | ⟨b, off, rfl, hb, hcell⟩
  · subst h
    exact (Tryz.strings_Join_none A c ⟨#[59]⟩ w).mono fun e w' ⟨h1, h2⟩ => ⟨h1, h2 ▸ Below.refl _ _⟩
  · have e : (ps.map ba).map (·.data.toList) = ps := by simp [Function.comp_def, ba]
    have hj := Tryz.strings_Join b off c (ps.map ba) ⟨#[59]⟩ w (fun j x hx => by
      rw [List.getElem?_map] at hx
      obtain ⟨y, hy, rfl⟩ := Option.map_eq_some_iff.1 hx
      exact hcell j y hy) hb.2 (by simp; omega) (by simpa using hl5) (by
      rw [e, show (⟨#[59]⟩ : ByteArray).data.toList = [59] from rfl, S3.semi_join]
      have := semi_len300 ps hp
      omega)
    rw [e, show (⟨#[59]⟩ : ByteArray).data.toList = [59] from rfl, S3.semi_join, List.length_map] at hj
    exact hj

set_option maxHeartbeats 8000000 in
set_option maxRecDepth 100000 in
theorem writeTimes_any (d s b m n : Int) (A : Option Addr) (l : List TimeD) (c B : Nat) (w : World) (hB : B ≤ w.heap.size) (h : TimesIn w (fun k => k < B) A l) (hl : l.length ≤ 24) (hE : Env7 w) :
    Calls Tryz.prog 56 #[.slice A l.length c, .agg #[.int .i64 d, .int .i64 s, .int .i64 b, .int .i64 m], .int .i64 n] w (Says (.string (ba (timesS d s b m n l))) w) := by
  obtain ⟨i9, hi9, hz9, hsi9, hby9⟩ := info_parts S3.infoStr
  unfold Says timesS
  have hk := K1.first w d s b m 24
  have HK := hid hk
  have HH := hid h
  have HE := hid (fun (w' : World) (hb : Below w.heap.size w w') => hE.below hb (Nat.le_refl _))
  clear hk h hE
  go_enter Tryz.func56, Tryz.ntmps56
  go_wp2
  go_loopw [7, 9, 10, 11, 14] (fun v _ _ _ iv wr => ∃ (i : Nat) (ps : List Str), iv = .int .i64 (i : Int) ∧ i ≤ l.length ∧ S3.StrRow wr (w.heap.size + 1) v ps ∧ Hid (ps = (l.take i).map (timeS d s b m n)) ∧ Hid (K1 w d s b m wr)) (fun _ _ _ _ iv _ => l.length - (RowKit.intOf iv).toNat)
  case atStart => exact ⟨0, [], rfl, Nat.zero_le _, World.ownsRow_nil _ _ _ _, hid rfl, hid HK.out⟩
  case round =>
    obtain ⟨i, ps, rfl, hi, hrow, hps, hK⟩ := hrel
    obtain ⟨Ar, cr, rfl⟩ := S3.row_slice hrow
    have HRow := hid hrow
    clear hrow
    by_cases hlt : i < l.length
    · have hltz : (i : Int) < (l.length : Int) := by omega
      have hHH := (HH.out.mono (fun k hk => Nat.lt_of_lt_of_le hk hB)).below hK.out.b
      have hle := hHH.le hlt
      obtain ⟨tb, tf, rfl, htb, t0, t1, t2, t3⟩ := hHH.at_ hlt
      have hst : (l.take (i + 1)).map (timeS d s b m n) = ps ++ [timeS d s b m n l[i]] := by rw [hps.out, List.take_succ_eq_append_getElem hlt, List.map_append]; rfl
      have hpl : ps.length = i := by rw [hps.out]; simp; omega
      obtain ⟨⟨k0, y0, u0, l0⟩, ht⟩ : ∃ t, l[i] = t := ⟨_, rfl⟩
      rw [ht] at t0 t1 t2 t3 hle hst
      dsimp only at t0 t1 t2 t3 hle
      obtain ⟨g0, g1, g2, g3, _⟩ := hK.out.x
      have hb1 := (Below.refl wr.heap.size wr).alloc (Nat.le_refl _) (.cells #[.int .i64 k0, .int .i64 y0, .int .i64 u0, .int .i64 l0] 26)
      have hK1 := hK.out.next hb1
      obtain ⟨g0', g1', g2', g3', _⟩ := id hK1.x
      have cF := hid (fun w' hb => tformat_any d s b m n k0 y0 u0 l0 hle w' (HE.out w' hb).e (HE.out w' hb).d)
      have hts : (textT d s b m n k0 y0 u0 l0).1 = timeS d s b m n (k0, y0, u0, l0) := rfl
      obtain ⟨⟨tx, te⟩, hR⟩ : ∃ R, textT d s b m n k0 y0 u0 l0 = R := ⟨_, rfl⟩
      have cF' := cF.out
      unfold FormOut at cF'
      rw [hR] at cF' hts
      dsimp only at cF' hts
      rw [← hts] at hst
      have CF := hid cF'
      have HST := hid hst
      have HB1 := hid hb1
      have HK1 := hid hK1
      have hrow1 := row_under HRow.out hb1
      have HRow1 := hid hrow1
      have HPL := hid hpl
      clear cF cF' hst hb1 hK1 hR hts ht hHH hle hpl hrow1
      go_wp2_with fail
      generalize wr.alloc (.cells #[.int .i64 k0, .int .i64 y0, .int .i64 u0, .int .i64 l0] 26) = w1 at HB1 HK1 HRow1 g0' g1' g2' g3' ⊢
      refine (CF.out _ HK1.out.b).mono ?_
      rintro e w2 ⟨rfl, hb2⟩
      have HK2 := hid (HK1.out.next hb2)
      have HRow2 := hid (row_under HRow1.out hb2)
      clear hb2 HRow1 HRow HK1 HB1 CF g0 g1 g2 g3 g0' g1' g2' g3' t0 t1 t2 t3
      have HC3 : Hid (ps.length + 1 ≤ maxLen) := by unfold maxLen; exact hid (by have := HPL.out; omega)
      have HC4 : Hid ((ps.length + 1) * 16 ≤ 140737488355328) := hid (by have := HPL.out; omega)
      have HC5 : Hid (∀ o : Obj, w.heap.size + 1 ≤ (w2.alloc o).heap.size) := hid (fun o => by have := HK2.out.x.lt; simp; omega)
      go_wp2_with (at_builtin; refine wpList_append_own _ rfl _ _ 58 rfl (w.heap.size + 1) 9 i9 (.string ⟨#[]⟩) 1 16 Tryz.underlying58 hi9 hz9 hsi9 hby9 rfl (by decide) _ ps.length (S3.strVals ps) rfl (World.ownsRow.alloc HRow2.out _) ⟨w2.heap.size, 0, none⟩ 1 1 [.string (ba tx)] rfl rfl (one_new _ _ _) (S3.one_str _) HC3.out HC4.out (HC5.out _) ?_)
      intro v' w4 hown' hgrow _
      have hg' := grownBy_of_alloc hgrow
      have hb24 : Below w.heap.size w2 w4 := (Below.refl _ w2).grown hg' HK2.out.b.size (fun k hk => by have := (World.ownsRow.lt HRow2.out k hk).1; omega)
      have hx4 : Box4 w4 w.heap.size d s b m := by
        have kc : ∀ o : Nat, w4.cell? ⟨w.heap.size, o, none⟩ = w2.cell? ⟨w.heap.size, o, none⟩ := fun o => World.cell?_of_block (w := w2) (hg'.block _ HK2.out.x.lt (fun e => by have := (World.ownsRow.lt HRow2.out _ e.symm).1; have e2 : w.heap.size + 1 ≤ w.heap.size := this; omega))
        have hx := HK2.out.x
        exact ⟨(kc 0).trans hx.c0, (kc 1).trans hx.c1, (kc 2).trans hx.c2, (kc 3).trans hx.c3, Nat.lt_of_lt_of_le hx.lt hg'.size⟩
      have HK4 : Hid (K1 w d s b m w4) := hid ⟨hx4, HK2.out.b.trans hb24⟩
      have HOwn := hid hown'
      clear hx4 hb24 hg' hgrow hown'
      go_wp2_with fail
      go_roundw
      case rel =>
        refine ⟨i + 1, ps ++ [tx], by go_num, by omega, ?_, hid HST.out.symm, HK4⟩
        unfold S3.StrRow
        rw [S3.strVals_app, List.length_append]
        exact HOwn.out
      case measure => simp [RowKit.intOf]; omega
    · have hltz : ¬ (i : Int) < (l.length : Int) := by omega
      have hpe : Hid (ps = l.map (timeS d s b m n)) := hid (by rw [hps.out, List.take_of_length_le (by omega)])
      have cJ := joinRow Ar ps cr (w.heap.size + 1) wr HRow.out (fun p hp => by rw [hpe.out] at hp; obtain ⟨t, _, rfl⟩ := List.mem_map.1 hp; exact timeS_len _ _ _ _ _ t) (by rw [hpe.out, List.length_map]; omega)
      have CJ := hid cJ
      clear cJ
      go_wp2_with fail
      refine CJ.out.mono ?_
      rintro e w' ⟨rfl, hb2⟩
      have HB2 := hid (hK.out.next hb2).b
      clear hb2
      go_wp2
      go_ret
      exact ⟨by rw [hpe.out]; rfl, HB2.out⟩
end Go.Proofs.YtnpfmoalgphkcaaGreatDoor

set_option linter.unusedVariables false
namespace Go.Proofs.YtnpfmoalgphkcaaGreatDoor
open Go Go.Proofs Go.RowKit Go.Lib

structure REnv7 (w : World) : Prop where
  wd : Words w
  d : RDays w
  z : 9 < w.heap.size
theorem REnv7.below {w w' : World} (h : REnv7 w) {B : Nat} (hb : Below B w w') (hB : w.heap.size ≤ B) : REnv7 w' := by
  have hz := h.z
  have hb' : Below w.heap.size w w' := hb.mono hB
  exact ⟨h.wd.below hb' hz, h.d.below hb' hz, Nat.lt_of_lt_of_le hz hb.size⟩
end Go.Proofs.YtnpfmoalgphkcaaGreatDoor

set_option linter.unusedVariables false
namespace Go.Proofs.YtnpfmoalgphkcaaGreatDoor
open Go Go.Proofs Go.ChangeShapes Go.WideShapes Go.ChangeAt Go.RowKit

section
variable {H : Type} {enc : TypeId × Value → H} {P : Program}
/-- Arguments below the heap's old size read as they did. -/
theorem trodAll_stays (hl : laidOutB P = true) {W W' : World} (hb : Below W.heap.size W W') {sp : Nat → Bool} : ∀ {ts : List TypeId} {vs : List Value} {ds : List (DataW H)} {ps : List MemPlace},
    (∀ t ∈ ts, P.readableRec t = true ∧ t < P.types.size) → DataW.TrodAll enc P W 0 (fun _ => true) true ts vs ds ps → (∀ x ∈ ps, x.block < W.heap.size) → (∀ x ∈ ps, sp x.block = true) → DataW.TrodAll enc P W' 0 sp true ts vs ds ps
  | [], vs, ds, ps, _, h, _, _ => by
    obtain ⟨rfl, rfl, rfl⟩ := trodAll_nil h
    exact trodAll_mk0
  | t :: ts, vs, ds, ps, ht, h, hlt, hsp => by
    obtain ⟨v, vs', d, ds', p, q, rfl, rfl, rfl, h0, hr⟩ := trodAll_cons h
    have hp : ∀ x ∈ p, x.block < W.heap.size := fun x hx => hlt x (List.mem_append.2 (.inl hx))
    refine trodAll_cons_mk (WideElems.Trod_stays hl (ht t (by simp)).1 (ht t (by simp)).2 h0 (fun x hx => hb.same (hp x hx)) (fun x hx => hsp x (List.mem_append.2 (.inl hx)))) ?_
    exact trodAll_stays hl hb (fun t' h' => ht t' (by simp [h'])) hr (fun x hx => hlt x (List.mem_append.2 (.inr hx))) (fun x hx => hsp x (List.mem_append.2 (.inr hx)))

/-- The law's end. -/
theorem law_post {f : Func} {s : ChangeSpec} {apart fresh again : Bool} {tb : TypeId} {W W' : World} {args : Array Value} {ds gs : List (DataW H)} {before : List MemPlace}
    (hl : laidOutB P = true) (hts : ∀ t ∈ f.params.toList, P.readableRec t = true ∧ t < P.types.size) (hres : f.resultTypes = #[tb]) (htb : P.underlying tb = some .bool)
    (hvars : s.vars = []) (hfn : s.fn H (ds ++ gs) = { results := [.lit (.bool true)], args := ds, vars := [] })
    (hW : DataW.Whole enc P f.params.toList s.vars apart W args.toList ds gs before) (hb : Below W.heap.size W W') :
    s.post enc P f apart fresh false again W args (.bool true) W' := by
  have hlt : ∀ p ∈ before, p.block < W.heap.size := fun p hp => hW.lt p hp
  have hW0 := hW
  obtain ⟨p, q, hA, hV, hpq, hz, hn⟩ := hW0
  rw [hvars] at hV
  obtain ⟨rfl, rfl⟩ := trodVars_none hV
  rw [List.append_nil] at hpq
  subst hpq
  have hr : ∀ (b : Nat) (sp : Nat → Bool) (hd : Bool), DataW.TrodAll enc P W' b sp hd f.resultTypes.toList ((Value.bool true).resultList f.resultTypes.size) (s.fn H (ds ++ [])).results [] := fun b sp hd => by
    rw [hres, hfn]
    exact trodAll_cons_mk (shut_bool htb true) trodAll_mk0
  have ha : ∀ sp : Nat → Bool, (∀ x ∈ before, sp x.block = true) → DataW.TrodAll enc P W' 0 sp true f.params.toList args.toList (s.fn H (ds ++ [])).args before := fun sp hsp => by
    rw [hfn]
    exact trodAll_stays hl hb hts hA hlt hsp
  have hold : ∀ x ∈ before, (fun b => decide (b < W.heap.size)) x.block = true := fun x hx => by simpa using hlt x hx
  have hvs : ∀ sp : Nat → Bool, DataW.TrodVars enc P W' sp s.vars (s.fn H (ds ++ [])).vars [] := fun sp => by
    rw [hvars, hfn]
    exact rfl
  refine ⟨ds, [], before, [], before, [], hW, hr _ _ _, ha _ hold, hvs _, World.keptBut_mono (fun x hx => ⟨hx, .inr (.inl hx)⟩) (hb.frame (· ∈ before)), fun _ => ?_⟩
  refine ⟨?_, _, _, ([] ++ before) ++ [], ⟨[] ++ before, [], trodAll_append (ha _ (fun _ _ => rfl)) (hr _ _ _), hvs _, rfl, ?_, ?_⟩, ?_⟩
  · intro j t r hj hr'
    rw [hres] at hj hr'
    match j, hj, hr' with
    | 0, hj, hr' =>
      simp at hj
      subst hj
      obtain rfl : (Value.bool true) = r := by simpa [Value.resultList] using hr'
      exact okWide_bool_mk htb true
    | j + 1, hj, _ => simp at hj
  · intro b off hp
    have hin : MemPlace.cell b off ∈ before := by simpa using hp
    rw [hb.frozen (hlt _ hin)]
    exact hz b off hin
  · intro h
    simpa using hn h
  · intro x hx _
    simpa using hx
end

theorem own : ownKnob Tryz.prog.godebug = none := by kernel_rfl
theorem laidOut : laidOutB Tryz.prog = true := by kernel_rfl
theorem rowLects : Tryz.prog.readableRec 22 = true ∧ 22 < Tryz.prog.types.size := ⟨by kernel_rfl, of_decide_eq_true (by kernel_rfl)⟩
theorem rowGrid : Tryz.prog.readableRec 24 = true ∧ 24 < Tryz.prog.types.size := ⟨by kernel_rfl, of_decide_eq_true (by kernel_rfl)⟩
theorem rowTime : Tryz.prog.readableRec 26 = true ∧ 26 < Tryz.prog.types.size := ⟨by kernel_rfl, of_decide_eq_true (by kernel_rfl)⟩
theorem uErr : Tryz.prog.underlying 132 = some (.interface #[("Error", 135)]) := by kernel_rfl
theorem star : "*" ++ "errors.errorString" = "*errors.errorString" := by decide
theorem rowPtr (u : TypeId) (h : Tryz.prog.typeName? 3 u = some "*errors.errorString") : u = 203 :=
  typeName_ptr_named (nm := "errors.errorString") (by rw [star]; kernel_rfl) (by kernel_rfl) (by decide) u (by rw [star]; exact h)
theorem gSyn : Tryz.prog.globalNamed "strconv.ErrSyntax" = some 9 := by kernel_rfl
theorem gWords : Tryz.prog.globalNamed "timetable/timetableref05.words" = some 3 := by kernel_rfl
theorem gNames : Tryz.prog.globalNamed "timetable/weekset.names" = some 4 := by kernel_rfl
theorem gDays : Tryz.prog.globalNamed "timetable/timegrid.days" = some 2 := by kernel_rfl
theorem gRDays : Tryz.prog.globalNamed "timetable/timetableref06.days" = some 1 := by kernel_rfl
section
variable {H : Type} {enc : TypeId × Value → H} {w : World} {base : Nat} {sp : Nat → Bool} {held : Bool}
theorem take1 {cs : List Value} {k : Nat} {v : Value} (h : (cs.drop k).take 1 = [v]) : cs[k]? = some v := by
  have := congrArg (·[0]?) h
  simpa [List.getElem?_take, List.getElem?_drop] using this
theorem word_cell {fuel : Nat} {cs : List Value} {p : List MemPlace} (h : DataW.trod enc Tryz.prog w base sp held fuel 136 cs = some (Rows.laid_timetable_timetableref05_words, p)) (k : Nat) (hk : k < 5) : cs[k]? = some (.string ⟨(wordS k).toArray⟩) := by
  obtain ⟨f', d, q, hd, ht⟩ := Lib.array_elem Tryz.underlying136 h k hk
  rw [show Tryz.prog.cellsOf 9 = 1 by kernel_rfl, Nat.mul_one] at ht
  obtain ⟨s, hcs, hx, _⟩ := DataW.trod_string Tryz.underlying9 ht
  rw [take1 hcs]
  injection hx with hx _
  subst hx
  have e : lst s = wordS k := by
    rcases (show k = 0 ∨ k = 1 ∨ k = 2 ∨ k = 3 ∨ k = 4 by omega) with rfl | rfl | rfl | rfl | rfl
    all_goals
      injection hd with hd
      injection hd with hd
      injection hd with hd
      exact hd.symm
  rw [ba_of e]
  rfl
theorem name_cells {fuel : Nat} {cs : List Value} {d : List (DataW H)} {p : List MemPlace} {T : Str} {m : Int} {a b : Bool} (h : DataW.trod enc Tryz.prog w base sp held fuel 162 cs = some (.agg d, p)) (hd : d = [.lit (.string T), .lit (.int .i64 m), .lit (.bool a), .lit (.bool b)]) :
    cs = [.string ⟨T.toArray⟩, .int .i64 m, .bool a, .bool b] := by
  obtain ⟨y0, y1, y2, y3, n, hx, hl, h0, h1, h2, h3⟩ := Joins.trod_struct4 Tryz.underlying162 h
  rw [show Tryz.prog.cellsOf 162 = 4 by kernel_rfl] at hl
  dsimp only at h0 h1 h2 h3
  rw [show Tryz.prog.cellsOf 9 = 1 by kernel_rfl] at h0
  rw [show Tryz.prog.cellsOf 3 = 1 by kernel_rfl] at h1
  rw [show Tryz.prog.cellsOf 4 = 1 by kernel_rfl] at h2 h3
  obtain ⟨s, hc0, rfl, _⟩ := DataW.trod_string Tryz.underlying9 h0
  obtain ⟨z, hc1, rfl, _⟩ := DataW.trod_int Tryz.underlying3 h1
  obtain ⟨x, hc2, rfl⟩ := DataW.trod_bool Tryz.underlying4 h2
  obtain ⟨y, hc3, rfl⟩ := DataW.trod_bool Tryz.underlying4 h3
  rw [hd] at hx
  simp only [Prod.mk.injEq, DataW.agg.injEq, List.cons.injEq, DataW.lit.injEq, Lit.string.injEq, Lit.int.injEq, Lit.bool.injEq, true_and, and_true] at hx
  obtain ⟨⟨hT, rfl, rfl, rfl⟩, _⟩ := hx
  have e : (⟨T.toArray⟩ : ByteArray) = s := by rw [hT]
  rw [e]
  match cs, hl with
  | [c0, c1, c2, c3], _ =>
    have := take1 hc0
    have := take1 hc1
    have := take1 hc2
    have := take1 hc3
    simp_all
theorem name_cell {fuel : Nat} {cs : List Value} {p : List MemPlace} (h : DataW.trod enc Tryz.prog w base sp held fuel 163 cs = some (Rows.laid_timetable_weekset_names, p)) (k : Nat) (hk : k < 5) : (cs.drop (k * 4)).take 4 = (nv k).toList := by
  obtain ⟨f', d, q, hd, ht⟩ := Lib.array_elem Tryz.underlying163 h k hk
  rw [show Tryz.prog.cellsOf 162 = 4 by kernel_rfl] at ht
  rcases (show k = 0 ∨ k = 1 ∨ k = 2 ∨ k = 3 ∨ k = 4 by omega) with rfl | rfl | rfl | rfl | rfl
  all_goals
    injection hd with hd
    rw [← hd] at ht
    exact name_cells ht rfl
theorem day_cell {fuel : Nat} {cs : List Value} {p : List MemPlace} (h : DataW.trod enc Tryz.prog w base sp held fuel 112 cs = some (Rows.laid_timetable_timegrid_days, p)) (k : Nat) (hk : k < 7) : cs[k]? = some (.string (ba (dayS k))) := by
  obtain ⟨f', d, q, hd, ht⟩ := Lib.array_elem Tryz.underlying112 h k hk
  rw [show Tryz.prog.cellsOf 9 = 1 by kernel_rfl, Nat.mul_one] at ht
  obtain ⟨s, hcs, hx, _⟩ := DataW.trod_string Tryz.underlying9 ht
  rw [take1 hcs]
  injection hx with hx _
  subst hx
  have e : lst s = dayS k := by
    rcases (show k = 0 ∨ k = 1 ∨ k = 2 ∨ k = 3 ∨ k = 4 ∨ k = 5 ∨ k = 6 by omega) with rfl | rfl | rfl | rfl | rfl | rfl | rfl
    all_goals
      injection hd with hd
      injection hd with hd
      injection hd with hd
      exact hd.symm
  rw [ba_of e]
theorem rday_cell {fuel : Nat} {cs : List Value} {p : List MemPlace} (h : DataW.trod enc Tryz.prog w base sp held fuel 112 cs = some (Rows.laid_timetable_timetableref06_days, p)) (k : Nat) (hk : k < 7) : cs[k]? = some (.string (ba (dayS k))) := by
  obtain ⟨f', d, q, hd, ht⟩ := Lib.array_elem Tryz.underlying112 h k hk
  rw [show Tryz.prog.cellsOf 9 = 1 by kernel_rfl, Nat.mul_one] at ht
  obtain ⟨s, hcs, hx, _⟩ := DataW.trod_string Tryz.underlying9 ht
  rw [take1 hcs]
  injection hx with hx _
  subst hx
  have e : lst s = dayS k := by
    rcases (show k = 0 ∨ k = 1 ∨ k = 2 ∨ k = 3 ∨ k = 4 ∨ k = 5 ∨ k = 6 by omega) with rfl | rfl | rfl | rfl | rfl | rfl | rfl
    all_goals
      injection hd with hd
      injection hd with hd
      injection hd with hd
      exact hd.symm
  rw [ba_of e]
end
theorem nameCells_at : ∀ (j : Nat) (v : Value), nameCells[j]? = some v → j / 4 < 5 ∧ (nv (j / 4)).toList[j % 4]? = some v := by
  intro j v h
  have hj : j < 20 := (List.getElem?_eq_some_iff.1 h).1
  rcases (show j = 0 ∨ j = 1 ∨ j = 2 ∨ j = 3 ∨ j = 4 ∨ j = 5 ∨ j = 6 ∨ j = 7 ∨ j = 8 ∨ j = 9 ∨ j = 10 ∨ j = 11 ∨ j = 12 ∨ j = 13 ∨ j = 14 ∨ j = 15 ∨ j = 16 ∨ j = 17 ∨ j = 18 ∨ j = 19 by omega) with rfl | rfl | rfl | rfl | rfl | rfl | rfl | rfl | rfl | rfl | rfl | rfl | rfl | rfl | rfl | rfl | rfl | rfl | rfl | rfl
  all_goals exact ⟨by decide, h⟩
/-- The variable ErrSyntax holds an error. -/
theorem errSyntax_ofL {W : World} {L : List (String × DataW Unit)} (hL : laidMet Tryz.prog (("strconv.ErrSyntax", Rows.laid_strconv_ErrSyntax) :: L) W) : ∃ ev, W.cell? ⟨9, 0, none⟩ = some ev ∧ (ev = .nilIface ∨ ∃ te pe, ev = .iface te pe) := by
  obtain ⟨a, s, hv, _⟩ := laid_sentinel hL gSyn (ti := 132) (tp := 203) (te := 205) (ts := 9) (f := { name := "s", type := 9, offset := 0, embedded := false, tag := "", pkgPath := "errors", byteOffset := 0 }) (ms := #[("Error", 135)]) (by kernel_rfl) uErr rowPtr (by kernel_rfl) (by kernel_rfl) rfl rfl (by kernel_rfl) (by kernel_rfl) (by kernel_rfl)
  exact ⟨_, World.var?_cell gSyn hv 0, .inr ⟨_, _, rfl⟩⟩
theorem names_ofL {W : World} {L : List (String × DataW Unit)} (hL : laidMet Tryz.prog L W) (hm : ("timetable/weekset.names", (Rows.laid_timetable_weekset_names : DataW Unit)) ∈ L) : Names W := by
  obtain ⟨g, t, cs, fuel, p, hg, hty, hvar, hd⟩ := Lib.laidMet.reads hL hm
  obtain rfl := Option.some.inj (gNames.symm.trans hg)
  obtain rfl := Option.some.inj ((show (Tryz.prog.globals[4]?).map (·.type) = some 163 by kernel_rfl).symm.trans hty)
  intro j v hj
  rw [World.var?_cell gNames hvar j, ← Array.getElem?_toList]
  obtain ⟨h5, hv⟩ := nameCells_at j v hj
  rw [← name_cell hd (j / 4) h5, List.getElem?_take, if_pos (by omega), List.getElem?_drop, show j / 4 * 4 + j % 4 = j by omega] at hv
  exact hv
theorem words_ofL {W : World} {L : List (String × DataW Unit)} (hL : laidMet Tryz.prog L W) (hm : ("timetable/timetableref05.words", (Rows.laid_timetable_timetableref05_words : DataW Unit)) ∈ L) : Words W := by
  obtain ⟨g, t, cs, fuel, p, hg, hty, hvar, hd⟩ := Lib.laidMet.reads hL hm
  obtain rfl := Option.some.inj (gWords.symm.trans hg)
  obtain rfl := Option.some.inj ((show (Tryz.prog.globals[3]?).map (·.type) = some 136 by kernel_rfl).symm.trans hty)
  intro k hk
  rw [World.var?_cell gWords hvar k, ← Array.getElem?_toList]
  exact word_cell hd k hk
theorem days_ofL {W : World} {L : List (String × DataW Unit)} (hL : laidMet Tryz.prog L W) (hm : ("timetable/timegrid.days", (Rows.laid_timetable_timegrid_days : DataW Unit)) ∈ L) : Days W := by
  obtain ⟨g, t, cs, fuel, p, hg, hty, hvar, hd⟩ := Lib.laidMet.reads hL hm
  obtain rfl := Option.some.inj (gDays.symm.trans hg)
  obtain rfl := Option.some.inj ((show (Tryz.prog.globals[2]?).map (·.type) = some 112 by kernel_rfl).symm.trans hty)
  intro j v hj
  have hj7 : j < 7 := (List.getElem?_eq_some_iff.1 hj).1
  rw [World.var?_cell gDays hvar j, ← Array.getElem?_toList, day_cell hd j hj7, ← hj]
  rcases (show j = 0 ∨ j = 1 ∨ j = 2 ∨ j = 3 ∨ j = 4 ∨ j = 5 ∨ j = 6 by omega) with rfl | rfl | rfl | rfl | rfl | rfl | rfl <;> rfl
theorem rdays_ofL {W : World} {L : List (String × DataW Unit)} (hL : laidMet Tryz.prog L W) (hm : ("timetable/timetableref06.days", (Rows.laid_timetable_timetableref06_days : DataW Unit)) ∈ L) : RDays W := by
  obtain ⟨g, t, cs, fuel, p, hg, hty, hvar, hd⟩ := Lib.laidMet.reads hL hm
  obtain rfl := Option.some.inj (gRDays.symm.trans hg)
  obtain rfl := Option.some.inj ((show (Tryz.prog.globals[1]?).map (·.type) = some 112 by kernel_rfl).symm.trans hty)
  intro j v hj
  have hj7 : j < 7 := (List.getElem?_eq_some_iff.1 hj).1
  rw [World.var?_cell gRDays hvar j, ← Array.getElem?_toList, rday_cell hd j hj7, ← hj]
  rcases (show j = 0 ∨ j = 1 ∨ j = 2 ∨ j = 3 ∨ j = 4 ∨ j = 5 ∨ j = 6 by omega) with rfl | rfl | rfl | rfl | rfl | rfl | rfl <;> rfl
theorem maxLen_of {W : World} (h : W.ShapedOpen Tryz.prog) : ∃ m, W.cell? ⟨5, 0, none⟩ = some (.int .i64 m) :=
  cell_of_shapedOpen_int (t := 3) (zero := #[.int .i64 0]) h (of_decide_eq_true (by kernel_rfl)) (by kernel_rfl) rfl (by kernel_rfl) (by kernel_rfl) Tryz.underlying3
theorem env_ofL {W : World} (h : Names W) (he : ∃ ev, W.cell? ⟨9, 0, none⟩ = some ev ∧ (ev = .nilIface ∨ ∃ te pe, ev = .iface te pe)) : Env W := by
  obtain ⟨ev, h1, h2⟩ := he
  exact ⟨h, ⟨ev, h1, h2⟩, World.block_lt_of_cell? W _ h1⟩
theorem env3_ofL {W : World} {L : List (String × DataW Unit)} (hL : laidMet Tryz.prog L W) (hm : ("internal/strconv.uint64pow10", (Rows.laid_internal_strconv_uint64pow10 : DataW Unit)) ∈ L) (hsh : W.ShapedOpen Tryz.prog) (he : ∃ ev, W.cell? ⟨9, 0, none⟩ = some ev ∧ (ev = .nilIface ∨ ∃ te pe, ev = .iface te pe)) : S3.Env W := by
  refine ⟨maxLen_of hsh, he, ?_, by obtain ⟨ev, h1, _⟩ := he; exact World.block_lt_of_cell? W _ h1⟩
  obtain ⟨g, t, cs, fuel, p, hg, hty, hvar, hd⟩ := Lib.laidMet.reads hL hm
  obtain rfl := Option.some.inj (S3.gTab.symm.trans hg)
  obtain rfl := Option.some.inj ((show (Tryz.prog.globals[8]?).map (·.type) = some 184 by kernel_rfl).symm.trans hty)
  have hcs := Lib.cells_of_tab (n := 20) (e := 174) (zs := Lib.pow10Tab) (k := .u64) (by kernel_rfl) (by kernel_rfl) (by kernel_rfl) (by kernel_rfl) hd
  unfold Lib.TabIs
  rw [hvar, ← hcs]
theorem env7_ofL {W : World} {L : List (String × DataW Unit)} (hL : laidMet Tryz.prog L W) (hsh : W.ShapedOpen Tryz.prog) (hn : ("timetable/weekset.names", (Rows.laid_timetable_weekset_names : DataW Unit)) ∈ L) (hd : ("timetable/timegrid.days", (Rows.laid_timetable_timegrid_days : DataW Unit)) ∈ L)
    (hp : ("internal/strconv.uint64pow10", (Rows.laid_internal_strconv_uint64pow10 : DataW Unit)) ∈ L) (he : ∃ ev, W.cell? ⟨9, 0, none⟩ = some ev ∧ (ev = .nilIface ∨ ∃ te pe, ev = .iface te pe)) : Env7 W :=
  ⟨env_ofL (names_ofL hL hn) he, env3_ofL hL hp hsh he, days_ofL hL hd⟩
theorem renv7_ofL {W : World} {L : List (String × DataW Unit)} (hL : laidMet Tryz.prog L W) (hw : ("timetable/timetableref05.words", (Rows.laid_timetable_timetableref05_words : DataW Unit)) ∈ L) (hr : ("timetable/timetableref06.days", (Rows.laid_timetable_timetableref06_days : DataW Unit)) ∈ L)
    (he : ∃ ev, W.cell? ⟨9, 0, none⟩ = some ev ∧ (ev = .nilIface ∨ ∃ te pe, ev = .iface te pe)) : REnv7 W :=
  ⟨words_ofL hL hw, rdays_ofL hL hr, by obtain ⟨ev, h1, _⟩ := he; exact World.block_lt_of_cell? W _ h1⟩
/-- A world in which the variables hold what their initialisers lay. -/
def cellsOfAgg : DataW Unit → Array Value
  | .agg l => (l.map fun | .lit (.int k z) => Value.int k z | _ => undef).toArray
  | _ => #[]
def acceptCells : Array Value := ((List.range 16).flatMap fun i => [Value.int .u8 (Lib.accLo i), Value.int .u8 (Lib.accHi i)]).toArray
def firstCells : Array Value := ((List.range 256).map fun b => Value.int .u8 (Lib.firstT b)).toArray
noncomputable def laidWorld (os : Os) : World :=
  let N := (World.settled Tryz.prog os).heap.size
  let w0 := World.holding Tryz.prog os ⟨#[.cells #[.string ⟨#[105, 110, 118, 97, 108, 105, 100, 32, 115, 121, 110, 116, 97, 120]⟩] 205, .cells #[.string ⟨#[118, 97, 108, 117, 101, 32, 111, 117, 116, 32, 111, 102, 32, 114, 97, 110, 103, 101]⟩] 205, .cells #[.string ⟨#[97, 100, 97]⟩, .string ⟨#[98, 111, 98]⟩, .string ⟨#[99, 121]⟩] 9], #[], []⟩
  let put (h : Array Obj) (g : Nat) (cs : Array Value) : Array Obj := h.modify g fun
    | .cells _ t frozen => .cells cs t frozen
    | o => o
  let h3 := put (put (put (put (put (put (put (put (put (put (put (put (w0.heap) 3 #[.string ⟨#[97, 108, 108]⟩, .string ⟨#[111, 100, 100]⟩, .string ⟨#[101, 118, 101, 110]⟩, .string ⟨#[102, 105, 114, 115, 116]⟩, .string ⟨#[115, 101, 99, 111, 110, 100]⟩]) 4 nameCells.toArray) 2 dayCells.toArray) 1 dayCells.toArray) 6 firstCells) 7 acceptCells) 9 #[.iface 203 (.pointer (some ⟨N, 0, none⟩))]) 10 #[.iface 203 (.pointer (some ⟨N + 1, 0, none⟩))]) 8 (cellsOfAgg Rows.laid_internal_strconv_uint64pow10)) 11 (cellsOfAgg Rows.laid_math_bits_deBruijn32tab)) 12 (cellsOfAgg Rows.laid_math_bits_deBruijn64tab)) 0 #[.slice (some ⟨N + 2, 0, none⟩) 3 3]
  { w0 with heap := h3 }
end Go.Proofs.YtnpfmoalgphkcaaGreatDoor

set_option linter.unusedVariables false
namespace Go.Proofs.YtnpfmoalgphkcaaGreatDoor
open Go Go.Proofs Go.RowKit Go.Lib

abbrev FieldD := Str × Int × Bool
abbrev RecD := Int × List FieldD
abbrev ProbD := Int × Int × Int
def fieldVs (f : FieldD) : List Value := [.string (ba f.1), .int .i64 f.2.1, .bool f.2.2]
/-- The slice at A holds the fields l, in a block with P. -/
def FieldsIn (w : World) (P : Nat → Prop) (A : Option Addr) (l : List FieldD) : Prop :=
  l = [] ∨ ∃ b off, A = some ⟨b, off, none⟩ ∧ P b ∧ ∀ (j : Nat) (t : FieldD), l[j]? = some t → ∀ (i : Nat) (v : Value), (fieldVs t)[i]? = some v → w.cell? ⟨b, off + j * 3 + i, none⟩ = some v
theorem FieldsIn.kept {w w' : World} {P : Nat → Prop} {A : Option Addr} {l : List FieldD} (h : FieldsIn w P A l) (hk : ∀ b, P b → w'.heap[b]? = w.heap[b]?) : FieldsIn w' P A l := by
  rcases h with h | ⟨b, off, hA, hP, hc⟩
  · exact .inl h
  · exact .inr ⟨b, off, hA, hP, fun j t hj i v hv => (World.cell?_of_block (w := w) (hk b hP)).trans (hc j t hj i v hv)⟩
theorem FieldsIn.mono {w : World} {P P' : Nat → Prop} {A : Option Addr} {l : List FieldD} (h : FieldsIn w P A l) (hP : ∀ b, P b → P' b) : FieldsIn w P' A l := by
  rcases h with h | ⟨b, off, hA, hb, hc⟩
  · exact .inl h
  · exact .inr ⟨b, off, hA, hP b hb, hc⟩
theorem FieldsIn.below {w w' : World} {B : Nat} {A : Option Addr} {l : List FieldD} (h : FieldsIn w (fun b => b < B) A l) (hb : Below B w w') : FieldsIn w' (fun b => b < B) A l := h.kept fun b hB => hb.block b hB
theorem FieldsIn.at_ {w : World} {P : Nat → Prop} {A : Option Addr} {l : List FieldD} (h : FieldsIn w P A l) {k : Nat} (hk : k < l.length) :
    ∃ b off, A = some ⟨b, off, none⟩ ∧ P b ∧ w.cell? ⟨b, off + k * 3, none⟩ = some (.string (ba l[k].1)) ∧ w.cell? ⟨b, off + k * 3 + 1, none⟩ = some (.int .i64 l[k].2.1) ∧ w.cell? ⟨b, off + k * 3 + 2, none⟩ = some (.bool l[k].2.2) := by
  rcases h with h | ⟨b, off, hA, hP, hc⟩
  · subst h; simp at hk
  · have hg := List.getElem?_eq_getElem hk
    exact ⟨b, off, hA, hP, hc k _ hg 0 _ rfl, hc k _ hg 1 _ rfl, hc k _ hg 2 _ rfl⟩
/-- The slice at A holds the records l, in blocks with P. -/
def RecsIn (w : World) (P : Nat → Prop) (A : Option Addr) (l : List RecD) : Prop :=
  l = [] ∨ ∃ b off, A = some ⟨b, off, none⟩ ∧ P b ∧ ∀ (j : Nat) (r : RecD), l[j]? = some r → ∃ A' c', FieldsIn w P A' r.2 ∧ r.2.length ≤ c' ∧ c' ≤ 9223372036854775807 ∧ w.cell? ⟨b, off + j * 2, none⟩ = some (.int .i64 r.1) ∧ w.cell? ⟨b, off + j * 2 + 1, none⟩ = some (.slice A' r.2.length c')
theorem RecsIn.kept {w w' : World} {P : Nat → Prop} {A : Option Addr} {l : List RecD} (h : RecsIn w P A l) (hk : ∀ b, P b → w'.heap[b]? = w.heap[b]?) : RecsIn w' P A l := by
  rcases h with h | ⟨b, off, hA, hP, hc⟩
  · exact .inl h
  · refine .inr ⟨b, off, hA, hP, fun j r hj => ?_⟩
    obtain ⟨A', c', h1, h2, h3, h4, h5⟩ := hc j r hj
    exact ⟨A', c', h1.kept hk, h2, h3, (World.cell?_of_block (w := w) (hk b hP)).trans h4, (World.cell?_of_block (w := w) (hk b hP)).trans h5⟩
theorem RecsIn.mono {w : World} {P P' : Nat → Prop} {A : Option Addr} {l : List RecD} (h : RecsIn w P A l) (hP : ∀ b, P b → P' b) : RecsIn w P' A l := by
  rcases h with h | ⟨b, off, hA, hb, hc⟩
  · exact .inl h
  · refine .inr ⟨b, off, hA, hP b hb, fun j r hj => ?_⟩
    obtain ⟨A', c', h1, h2, h3, h4, h5⟩ := hc j r hj
    exact ⟨A', c', h1.mono hP, h2, h3, h4, h5⟩
theorem RecsIn.below {w w' : World} {B : Nat} {A : Option Addr} {l : List RecD} (h : RecsIn w (fun b => b < B) A l) (hb : Below B w w') : RecsIn w' (fun b => b < B) A l := h.kept fun b hB => hb.block b hB
theorem RecsIn.at_ {w : World} {P : Nat → Prop} {A : Option Addr} {l : List RecD} (h : RecsIn w P A l) {k : Nat} (hk : k < l.length) :
    ∃ b off A' c', A = some ⟨b, off, none⟩ ∧ P b ∧ FieldsIn w P A' l[k].2 ∧ l[k].2.length ≤ c' ∧ c' ≤ 9223372036854775807 ∧ w.cell? ⟨b, off + k * 2, none⟩ = some (.int .i64 l[k].1) ∧ w.cell? ⟨b, off + k * 2 + 1, none⟩ = some (.slice A' l[k].2.length c') := by
  rcases h with h | ⟨b, off, hA, hP, hc⟩
  · subst h; simp at hk
  · obtain ⟨A', c', h1, h2, h3, h4, h5⟩ := hc k _ (List.getElem?_eq_getElem hk)
    exact ⟨b, off, A', c', hA, hP, h1, h2, h3, h4, h5⟩

/-! ### rows that the call owns: times, rooms, problems -/
theorem infoTime : (Tryz.prog.info? 26).map (fun i => (i.zero, i.size, i.bytes)) = some (some (.agg #[.int .i64 0, .int .i64 0, .int .i64 0, .int .i64 0]), 4, 32) := by kernel_rfl
theorem infoProb : (Tryz.prog.info? 79).map (fun i => (i.zero, i.size, i.bytes)) = some (some (.agg #[.int .i64 0, .int .i64 0, .int .i64 0, .int .i64 0]), 4, 32) := by kernel_rfl
def timeVals (l : List TimeD) : List Value := l.flatMap timeVs
theorem timeVals_app (a b : List TimeD) : timeVals (a ++ b) = timeVals a ++ timeVals b := by simp [timeVals]
theorem timeVals_get : ∀ (l : List TimeD) (j : Nat) (t : TimeD), l[j]? = some t → ∀ (i : Nat) (v : Value), (timeVs t)[i]? = some v → (timeVals l)[j * 4 + i]? = some v
  | [], j, t, h, _, _, _ => by simp at h
  | a :: r, 0, t, h, i, v, hv => by
    simp at h
    subst h
    have hi : i < 4 := (List.getElem?_eq_some_iff.1 hv).1
    unfold timeVals
    rw [List.flatMap_cons, List.getElem?_append_left (by show _ < 4; omega)]
    simpa using hv
  | a :: r, j + 1, t, h, i, v, hv => by
    have := timeVals_get r j t (by simpa using h) i v hv
    unfold timeVals at this ⊢
    rw [List.flatMap_cons, List.getElem?_append_right (by show 4 ≤ _; omega)]
    show (List.flatMap timeVs r)[(j + 1) * 4 + i - 4]? = _
    rw [show (j + 1) * 4 + i - 4 = j * 4 + i by omega]
    exact this
theorem timeVals_one : ∀ (l : List TimeD), ∀ u ∈ timeVals l, u.oneCell' = true := by
  intro l u hu
  obtain ⟨t, _, h⟩ := List.mem_flatMap.1 hu
  simp [timeVs] at h
  rcases h with rfl | rfl | rfl | rfl <;> rfl
/-- A row of times that the call owns. -/
def TimeRow (w : World) (B : Nat) (v : Value) (l : List TimeD) : Prop := w.ownsRow B 26 4 v l.length (timeVals l)
theorem TimeRow.timesIn {w : World} {B : Nat} {v : Value} {l : List TimeD} (h : TimeRow w B v l) (hle : ∀ t ∈ l, t.2.2.1 ≤ 9223372036854775807) : ∃ A c, v = .slice A l.length c ∧ l.length ≤ c ∧ c ≤ 9223372036854775807 ∧ TimesIn w (fun b => B ≤ b ∧ b < w.heap.size) A l := by
  have h' := h
  rcases h.2 with ⟨hv, h0⟩ | ⟨g, cap, cur, hv, hB, hg, h1, h2, _⟩
  · have hl : l = [] := List.eq_nil_of_length_eq_zero h0
    subst hl
    exact ⟨none, 0, hv, Nat.le_refl _, by omega, TimesIn.nil _ _ _⟩
  · refine ⟨_, cap, hv, h1, by unfold maxLen at h2; omega, hle, .inr ⟨g, 0, rfl, ⟨hB, (Array.getElem?_eq_some_iff.1 hg).1⟩, fun j t hj i v' hv' => ?_⟩⟩
    have := World.ownsRow.cells h' (g := g) (by rw [hv]; rfl) (j * 4 + i) v' (timeVals_get l j t hj i v' hv')
    rw [Addr.add_lit] at this
    rw [← Nat.add_assoc] at this
    exact this
def probVs (p : ProbD) : List Value := [.int .i64 0, .int .i64 p.1, .int .i64 p.2.1, .int .i64 p.2.2]
def probVals (l : List ProbD) : List Value := l.flatMap probVs
theorem probVals_app (a b : List ProbD) : probVals (a ++ b) = probVals a ++ probVals b := by simp [probVals]
def ProbsRow (w : World) (B : Nat) (v : Value) (l : List ProbD) : Prop := w.ownsRow B 79 4 v l.length (probVals l)
end Go.Proofs.YtnpfmoalgphkcaaGreatDoor

