/-
  From a walk to a row, for every statement of this seat: a call that returns true and turns nothing that was there meets what a row asks. Condition: as the lemmas state.
  The rooms that are known, by their codes: add of rooms. Conditions: the map is one of the call's own, with the codes l; the room's code fits into memory.
  Records, problems in memory. No program beyond the types' facts.
  Reading rooms, as mathematics: fields, entries, lists of records. No program.
-/
import Derived.Test.YtigdcgklpapfbaaGreatDoorVR15
import Derived.Test.YtigdcgklpapfbaaGreatDoorCards
import Derived.Test.YtigdcgklpapfbaaGreatDoorTie
import Derived.Lib.SmallJoins
import Derived.Stop.LaidErr
import Derived.Deep.DeepWitnessRowRef
import Derived.Deep.DeepLaidRun
import Derived.Lib.LaidU8
set_option linter.unusedVariables false
namespace Go.Proofs.YtigdcgklpapfbaaGreatDoor
open Go Go.Proofs Go.ChangeShapes Go.WideShapes Go.ChangeAt Go.RowKit

section
variable {H : Type} {enc : TypeId × Value → H} {P : Program}
/-- Arguments below the heap's old size read as they did. -/
theorem trodAll_stays (hl : laidOutB P = true) {W W' : World} (hb : Below W.heap.size W W') {sp : Nat → Bool} : ∀ {ts : List TypeId} {vs : List Value} {ds : List (DataW H)} {ps : List MemPlace},
    (∀ t ∈ ts, P.readableRec t = true ∧ t < P.types.size) → DataW.TrodAll enc P W 0 (fun _ => true) true ts vs ds ps → (∀ x ∈ ps, x.block < W.heap.size) → (∀ x ∈ ps, sp x.block = true) → DataW.TrodAll enc P W' 0 sp true ts vs ds ps
  | [], vs, ds, ps, _, h, _, _ => by
    obtain ⟨rfl, rfl, rfl⟩ := trodAll_nil h
    exact trodAll_mk0
  | t :: ts, vs, ds, ps, ht, h, hlt, hsp => by
    obtain ⟨v, vs', d, ds', p, q, rfl, rfl, rfl, h0, hr⟩ := trodAll_cons h
    have hp : ∀ x ∈ p, x.block < W.heap.size := fun x hx => hlt x (List.mem_append.2 (.inl hx))
    refine trodAll_cons_mk (WideElems.Trod_stays hl (ht t (by simp)).1 (ht t (by simp)).2 h0 (fun x hx => hb.same (hp x hx)) (fun x hx => hsp x (List.mem_append.2 (.inl hx)))) ?_
    exact trodAll_stays hl hb (fun t' h' => ht t' (by simp [h'])) hr (fun x hx => hlt x (List.mem_append.2 (.inr hx))) (fun x hx => hsp x (List.mem_append.2 (.inr hx)))

/-- The law's end. -/
theorem law_post {f : Func} {s : ChangeSpec} {apart fresh again : Bool} {tb : TypeId} {W W' : World} {args : Array Value} {ds gs : List (DataW H)} {before : List MemPlace}
    (hl : laidOutB P = true) (hts : ∀ t ∈ f.params.toList, P.readableRec t = true ∧ t < P.types.size) (hres : f.resultTypes = #[tb]) (htb : P.underlying tb = some .bool)
    (hvars : s.vars = []) (hfn : s.fn H (ds ++ gs) = { results := [.lit (.bool true)], args := ds, vars := [] })
    (hW : DataW.Whole enc P f.params.toList s.vars apart W args.toList ds gs before) (hb : Below W.heap.size W W') :
    s.post enc P f apart fresh false again W args (.bool true) W' := by
  have hlt : ∀ p ∈ before, p.block < W.heap.size := fun p hp => hW.lt p hp
  have hW0 := hW
  obtain ⟨p, q, hA, hV, hpq, hz, hn⟩ := hW0
  rw [hvars] at hV
  obtain ⟨rfl, rfl⟩ := trodVars_none hV
  rw [List.append_nil] at hpq
  subst hpq
  have hr : ∀ (b : Nat) (sp : Nat → Bool) (hd : Bool), DataW.TrodAll enc P W' b sp hd f.resultTypes.toList ((Value.bool true).resultList f.resultTypes.size) (s.fn H (ds ++ [])).results [] := fun b sp hd => by
    rw [hres, hfn]
    exact trodAll_cons_mk (shut_bool htb true) trodAll_mk0
  have ha : ∀ sp : Nat → Bool, (∀ x ∈ before, sp x.block = true) → DataW.TrodAll enc P W' 0 sp true f.params.toList args.toList (s.fn H (ds ++ [])).args before := fun sp hsp => by
    rw [hfn]
    exact trodAll_stays hl hb hts hA hlt hsp
  have hold : ∀ x ∈ before, (fun b => decide (b < W.heap.size)) x.block = true := fun x hx => by simpa using hlt x hx
  have hvs : ∀ sp : Nat → Bool, DataW.TrodVars enc P W' sp s.vars (s.fn H (ds ++ [])).vars [] := fun sp => by
    rw [hvars, hfn]
    exact rfl
  refine ⟨ds, [], before, [], before, [], hW, hr _ _ _, ha _ hold, hvs _, World.keptBut_mono (fun x hx => ⟨hx, .inr (.inl hx)⟩) (hb.frame (· ∈ before)), fun _ => ?_⟩
  refine ⟨?_, _, _, ([] ++ before) ++ [], ⟨[] ++ before, [], trodAll_append (ha _ (fun _ _ => rfl)) (hr _ _ _), hvs _, rfl, ?_, ?_⟩, ?_⟩
  · intro j t r hj hr'
    rw [hres] at hj hr'
    match j, hj, hr' with
    | 0, hj, hr' =>
      simp at hj
      subst hj
      obtain rfl : (Value.bool true) = r := by simpa [Value.resultList] using hr'
      exact okWide_bool_mk htb true
    | j + 1, hj, _ => simp at hj
  · intro b off hp
    have hin : MemPlace.cell b off ∈ before := by simpa using hp
    rw [hb.frozen (hlt _ hin)]
    exact hz b off hin
  · intro h
    simpa using hn h
  · intro x hx _
    simpa using hx
end

theorem own : ownKnob Tryz.prog.godebug = none := by kernel_rfl
theorem laidOut : laidOutB Tryz.prog = true := by kernel_rfl
theorem rowInts : Tryz.prog.readableRec 29 = true ∧ 29 < Tryz.prog.types.size := ⟨by kernel_rfl, of_decide_eq_true (by kernel_rfl)⟩
theorem uErr : Tryz.prog.underlying 177 = some (.interface #[("Error", 180)]) := by kernel_rfl
theorem star : "*" ++ "errors.errorString" = "*errors.errorString" := by decide
theorem rowPtr (u : TypeId) (h : Tryz.prog.typeName? 3 u = some "*errors.errorString") : u = 298 :=
  typeName_ptr_named (nm := "errors.errorString") (by rw [star]; kernel_rfl) (by kernel_rfl) (by decide) u (by rw [star]; exact h)
theorem gSyn : Tryz.prog.globalNamed "strconv.ErrSyntax" = some 8 := by kernel_rfl
theorem gNames : Tryz.prog.globalNamed "timetable/weekset.names" = some 5 := by kernel_rfl
theorem gDays : Tryz.prog.globalNamed "timetable/timegrid.days" = some 4 := by kernel_rfl
section
variable {H : Type} {enc : TypeId × Value → H} {w : World} {base : Nat} {sp : Nat → Bool} {held : Bool}
theorem take1 {cs : List Value} {k : Nat} {v : Value} (h : (cs.drop k).take 1 = [v]) : cs[k]? = some v := by
  have := congrArg (·[0]?) h
  simpa [List.getElem?_take, List.getElem?_drop] using this
theorem name_cells {fuel : Nat} {cs : List Value} {d : List (DataW H)} {p : List MemPlace} {T : Str} {m : Int} {a b : Bool} (h : DataW.trod enc Tryz.prog w base sp held fuel 208 cs = some (.agg d, p)) (hd : d = [.lit (.string T), .lit (.int .i64 m), .lit (.bool a), .lit (.bool b)]) :
    cs = [.string ⟨T.toArray⟩, .int .i64 m, .bool a, .bool b] := by
  obtain ⟨y0, y1, y2, y3, n, hx, hl, h0, h1, h2, h3⟩ := Joins.trod_struct4 Tryz.underlying208 h
  rw [show Tryz.prog.cellsOf 208 = 4 by kernel_rfl] at hl
  dsimp only at h0 h1 h2 h3
  rw [show Tryz.prog.cellsOf 9 = 1 by kernel_rfl] at h0
  rw [show Tryz.prog.cellsOf 3 = 1 by kernel_rfl] at h1
  rw [show Tryz.prog.cellsOf 4 = 1 by kernel_rfl] at h2 h3
  obtain ⟨s, hc0, rfl, _⟩ := DataW.trod_string Tryz.underlying9 h0
  obtain ⟨z, hc1, rfl, _⟩ := DataW.trod_int Tryz.underlying3 h1
  obtain ⟨x, hc2, rfl⟩ := DataW.trod_bool Tryz.underlying4 h2
  obtain ⟨y, hc3, rfl⟩ := DataW.trod_bool Tryz.underlying4 h3
  rw [hd] at hx
  simp only [Prod.mk.injEq, DataW.agg.injEq, List.cons.injEq, DataW.lit.injEq, Lit.string.injEq, Lit.int.injEq, Lit.bool.injEq, true_and, and_true] at hx
  obtain ⟨⟨hT, rfl, rfl, rfl⟩, _⟩ := hx
  have e : (⟨T.toArray⟩ : ByteArray) = s := by rw [hT]
  rw [e]
  match cs, hl with
  | [c0, c1, c2, c3], _ =>
    have := take1 hc0
    have := take1 hc1
    have := take1 hc2
    have := take1 hc3
    simp_all
theorem name_cell {fuel : Nat} {cs : List Value} {p : List MemPlace} (h : DataW.trod enc Tryz.prog w base sp held fuel 209 cs = some (Rows.laid_timetable_weekset_names, p)) (k : Nat) (hk : k < 5) : (cs.drop (k * 4)).take 4 = (nv k).toList := by
  obtain ⟨f', d, q, hd, ht⟩ := Lib.array_elem Tryz.underlying209 h k hk
  rw [show Tryz.prog.cellsOf 208 = 4 by kernel_rfl] at ht
  rcases (show k = 0 ∨ k = 1 ∨ k = 2 ∨ k = 3 ∨ k = 4 by omega) with rfl | rfl | rfl | rfl | rfl
  all_goals
    injection hd with hd
    rw [← hd] at ht
    exact name_cells ht rfl
theorem day_cell {fuel : Nat} {cs : List Value} {p : List MemPlace} (h : DataW.trod enc Tryz.prog w base sp held fuel 115 cs = some (Rows.laid_timetable_timegrid_days, p)) (k : Nat) (hk : k < 7) : cs[k]? = some (.string (ba (dayS k))) := by
  obtain ⟨f', d, q, hd, ht⟩ := Lib.array_elem Tryz.underlying115 h k hk
  rw [show Tryz.prog.cellsOf 9 = 1 by kernel_rfl, Nat.mul_one] at ht
  obtain ⟨s, hcs, hx, _⟩ := DataW.trod_string Tryz.underlying9 ht
  rw [take1 hcs]
  injection hx with hx _
  subst hx
  have e : lst s = dayS k := by
    rcases (show k = 0 ∨ k = 1 ∨ k = 2 ∨ k = 3 ∨ k = 4 ∨ k = 5 ∨ k = 6 by omega) with rfl | rfl | rfl | rfl | rfl | rfl | rfl
    all_goals
      injection hd with hd
      injection hd with hd
      injection hd with hd
      exact hd.symm
  rw [ba_of e]
end
theorem nameCells_at : ∀ (j : Nat) (v : Value), nameCells[j]? = some v → j / 4 < 5 ∧ (nv (j / 4)).toList[j % 4]? = some v := by
  intro j v h
  have hj : j < 20 := (List.getElem?_eq_some_iff.1 h).1
  rcases (show j = 0 ∨ j = 1 ∨ j = 2 ∨ j = 3 ∨ j = 4 ∨ j = 5 ∨ j = 6 ∨ j = 7 ∨ j = 8 ∨ j = 9 ∨ j = 10 ∨ j = 11 ∨ j = 12 ∨ j = 13 ∨ j = 14 ∨ j = 15 ∨ j = 16 ∨ j = 17 ∨ j = 18 ∨ j = 19 by omega) with rfl | rfl | rfl | rfl | rfl | rfl | rfl | rfl | rfl | rfl | rfl | rfl | rfl | rfl | rfl | rfl | rfl | rfl | rfl | rfl
  all_goals exact ⟨by decide, h⟩
/-- The variable ErrSyntax holds an error. -/
theorem errSyntax_ofL {W : World} {L : List (String × DataW Unit)} (hL : laidMet Tryz.prog (("strconv.ErrSyntax", Rows.laid_strconv_ErrSyntax) :: L) W) : ∃ ev, W.cell? ⟨8, 0, none⟩ = some ev ∧ (ev = .nilIface ∨ ∃ te pe, ev = .iface te pe) := by
  obtain ⟨a, s, hv, _⟩ := laid_sentinel hL gSyn (ti := 177) (tp := 298) (te := 300) (ts := 9) (f := { name := "s", type := 9, offset := 0, embedded := false, tag := "", pkgPath := "errors", byteOffset := 0 }) (ms := #[("Error", 180)]) (by kernel_rfl) uErr rowPtr (by kernel_rfl) (by kernel_rfl) rfl rfl (by kernel_rfl) (by kernel_rfl) (by kernel_rfl)
  exact ⟨_, World.var?_cell gSyn hv 0, .inr ⟨_, _, rfl⟩⟩
theorem names_ofL {W : World} {L : List (String × DataW Unit)} (hL : laidMet Tryz.prog L W) (hm : ("timetable/weekset.names", (Rows.laid_timetable_weekset_names : DataW Unit)) ∈ L) : Names W := by
  obtain ⟨g, t, cs, fuel, p, hg, hty, hvar, hd⟩ := Lib.laidMet.reads hL hm
  obtain rfl := Option.some.inj (gNames.symm.trans hg)
  obtain rfl := Option.some.inj ((show (Tryz.prog.globals[5]?).map (·.type) = some 209 by kernel_rfl).symm.trans hty)
  intro j v hj
  rw [World.var?_cell gNames hvar j, ← Array.getElem?_toList]
  obtain ⟨h5, hv⟩ := nameCells_at j v hj
  rw [← name_cell hd (j / 4) h5, List.getElem?_take, if_pos (by omega), List.getElem?_drop, show j / 4 * 4 + j % 4 = j by omega] at hv
  exact hv
theorem days_ofL {W : World} {L : List (String × DataW Unit)} (hL : laidMet Tryz.prog L W) (hm : ("timetable/timegrid.days", (Rows.laid_timetable_timegrid_days : DataW Unit)) ∈ L) : Days W := by
  obtain ⟨g, t, cs, fuel, p, hg, hty, hvar, hd⟩ := Lib.laidMet.reads hL hm
  obtain rfl := Option.some.inj (gDays.symm.trans hg)
  obtain rfl := Option.some.inj ((show (Tryz.prog.globals[4]?).map (·.type) = some 115 by kernel_rfl).symm.trans hty)
  intro j v hj
  have hj7 : j < 7 := (List.getElem?_eq_some_iff.1 hj).1
  rw [World.var?_cell gDays hvar j, ← Array.getElem?_toList, day_cell hd j hj7, ← hj]
  rcases (show j = 0 ∨ j = 1 ∨ j = 2 ∨ j = 3 ∨ j = 4 ∨ j = 5 ∨ j = 6 by omega) with rfl | rfl | rfl | rfl | rfl | rfl | rfl <;> rfl
theorem maxLen_of {W : World} (h : W.ShapedOpen Tryz.prog) : ∃ m, W.cell? ⟨7, 0, none⟩ = some (.int .i64 m) :=
  cell_of_shapedOpen_int (t := 3) (zero := #[.int .i64 0]) h (of_decide_eq_true (by kernel_rfl)) (by kernel_rfl) rfl (by kernel_rfl) (by kernel_rfl) Tryz.underlying3
theorem env_ofL {W : World} (h : Names W) (he : ∃ ev, W.cell? ⟨8, 0, none⟩ = some ev ∧ (ev = .nilIface ∨ ∃ te pe, ev = .iface te pe)) : Env W := by
  obtain ⟨ev, h1, h2⟩ := he
  exact ⟨h, ⟨ev, h1, h2⟩, World.block_lt_of_cell? W _ h1⟩
theorem env3_ofL {W : World} {L : List (String × DataW Unit)} (hL : laidMet Tryz.prog L W) (hm : ("internal/strconv.uint64pow10", (Rows.laid_internal_strconv_uint64pow10 : DataW Unit)) ∈ L) (hsh : W.ShapedOpen Tryz.prog) (he : ∃ ev, W.cell? ⟨8, 0, none⟩ = some ev ∧ (ev = .nilIface ∨ ∃ te pe, ev = .iface te pe)) : S3.Env W := by
  refine ⟨maxLen_of hsh, he, ?_, by obtain ⟨ev, h1, _⟩ := he; exact World.block_lt_of_cell? W _ h1⟩
  obtain ⟨g, t, cs, fuel, p, hg, hty, hvar, hd⟩ := Lib.laidMet.reads hL hm
  obtain rfl := Option.some.inj (S3.gTab.symm.trans hg)
  obtain rfl := Option.some.inj ((show (Tryz.prog.globals[6]?).map (·.type) = some 243 by kernel_rfl).symm.trans hty)
  have hcs := Lib.cells_of_tab (n := 20) (e := 202) (zs := Lib.pow10Tab) (k := .u64) (by kernel_rfl) (by kernel_rfl) (by kernel_rfl) (by kernel_rfl) hd
  unfold Lib.TabIs
  rw [hvar, ← hcs]
theorem env7_ofL {W : World} {L : List (String × DataW Unit)} (hL : laidMet Tryz.prog L W) (hsh : W.ShapedOpen Tryz.prog) (hn : ("timetable/weekset.names", (Rows.laid_timetable_weekset_names : DataW Unit)) ∈ L) (hd : ("timetable/timegrid.days", (Rows.laid_timetable_timegrid_days : DataW Unit)) ∈ L)
    (hp : ("internal/strconv.uint64pow10", (Rows.laid_internal_strconv_uint64pow10 : DataW Unit)) ∈ L) (he : ∃ ev, W.cell? ⟨8, 0, none⟩ = some ev ∧ (ev = .nilIface ∨ ∃ te pe, ev = .iface te pe)) : Env7 W :=
  ⟨env_ofL (names_ofL hL hn) he, env3_ofL hL hp hsh he, days_ofL hL hd⟩
/-- A world in which the variables hold what their initialisers lay. -/
def cellsOfAgg : DataW Unit → Array Value
  | .agg l => (l.map fun | .lit (.int k z) => Value.int k z | _ => undef).toArray
  | _ => #[]
def acceptCells : Array Value := ((List.range 16).flatMap fun i => [Value.int .u8 (Lib.accLo i), Value.int .u8 (Lib.accHi i)]).toArray
def firstCells : Array Value := ((List.range 256).map fun b => Value.int .u8 (Lib.firstT b)).toArray
noncomputable def laidWorld (os : Os) : World :=
  let N := (World.settled Tryz.prog os).heap.size
  let w0 := World.holding Tryz.prog os ⟨#[.cells #[.string ⟨#[105, 110, 118, 97, 108, 105, 100, 32, 115, 121, 110, 116, 97, 120]⟩] 300, .cells #[.string ⟨#[118, 97, 108, 117, 101, 32, 111, 117, 116, 32, 111, 102, 32, 114, 97, 110, 103, 101]⟩] 300, .cells #[.string ⟨#[97, 100, 97]⟩, .string ⟨#[98, 111, 98]⟩, .string ⟨#[99, 121]⟩] 9, .cells #[.string ⟨#[98, 101, 97, 109, 101, 114]⟩, .string ⟨#[108, 97, 98]⟩, .string ⟨#[112, 105, 97, 110, 111]⟩] 9], #[], []⟩
  let put (h : Array Obj) (g : Nat) (cs : Array Value) : Array Obj := h.modify g fun
    | .cells _ t frozen => .cells cs t frozen
    | o => o
  let h3 := put (put (put (put (put (put (put (put (put (put (put (put (put (w0.heap) 1 #[.string ⟨#[97, 108, 108]⟩, .string ⟨#[111, 100, 100]⟩, .string ⟨#[101, 118, 101, 110]⟩, .string ⟨#[102, 105, 114, 115, 116]⟩, .string ⟨#[115, 101, 99, 111, 110, 100]⟩]) 5 nameCells.toArray) 4 dayCells.toArray) 2 dayCells.toArray) 12 firstCells) 13 acceptCells) 8 #[.iface 298 (.pointer (some ⟨N, 0, none⟩))]) 9 #[.iface 298 (.pointer (some ⟨N + 1, 0, none⟩))]) 6 (cellsOfAgg Rows.laid_internal_strconv_uint64pow10)) 10 (cellsOfAgg Rows.laid_math_bits_deBruijn32tab)) 11 (cellsOfAgg Rows.laid_math_bits_deBruijn64tab)) 0 #[.slice (some ⟨N + 2, 0, none⟩) 3 3]) 3 #[.slice (some ⟨N + 3, 0, none⟩) 3 3]
  { w0 with heap := h3 }
end Go.Proofs.YtigdcgklpapfbaaGreatDoor

set_option linter.unusedVariables false
namespace Go.Proofs.YtigdcgklpapfbaaGreatDoor
open Go Go.Proofs Go.RowKit Go.Lib
open Go.Maps (Keyed string_keyed)
open Go.WideMaps (keyOf_string_mk)

def litS (s : Str) : Lit := .string s
def setR (l : List Str) : DataW Unit := Maps.setOf (.agg []) (l.map litS)
theorem keyLit (s : Str) : WideAt.IsKeyLit (litS s) := by unfold litS; constructor
theorem sameKey_litS (a b : Str) : (litS a).sameKey (litS b) = decide (a = b) := by
  by_cases h : a = b
  · subst h
    rw [WideAt.sameKey_self (keyLit a), decide_eq_true rfl]
  · rw [Maps.sameKey_ne (fun e => h (by unfold litS at e; injection e)), decide_eq_false h]
theorem has_setR (l : List Str) (c : Str) : Maps.has (setR l) (litS c) = decide (c ∈ l) := by
  unfold setR
  rw [Maps.has_setOf _ _ _ (fun x hx => by obtain ⟨s, _, rfl⟩ := List.mem_map.1 hx; exact keyLit s)]
  rw [Bool.eq_iff_iff, List.any_eq_true, decide_eq_true_eq]
  constructor
  · rintro ⟨x, hx, hk⟩
    obtain ⟨s, hs, rfl⟩ := List.mem_map.1 hx
    rw [sameKey_litS, decide_eq_true_eq] at hk
    subst hk
    exact hs
  · intro h
    exact ⟨litS c, List.mem_map.2 ⟨c, h, rfl⟩, by rw [sameKey_litS, decide_eq_true rfl]⟩
theorem setR_snoc (l : List Str) (c : Str) : setR (l ++ [c]) = (setR l).put (litS c) (.agg []) := by
  unfold setR
  rw [List.map_append, List.map_singleton, Maps.setOf_snoc]
theorem below_grown {B : Nat} {w w' : World} (h : Below B w w') (hB : w.heap.size ≤ B) : w.grownBy w' none := ⟨h.os, h.tape, h.output, h.size, fun k hk _ => h.block k (Nat.lt_of_lt_of_le hk hB)⟩
theorem law9 : Keyed Tryz.prog 9 := string_keyed Tryz.underlying9
def addM (l : List Str) (c : Str) : List Str × Int := if c ∈ l then (l, 11) else if l.length = 16 then (l, 2) else (l ++ [c], 0)
theorem grown_none {w w' : World} {B : Nat} (h : w.grownBy w' none) : w.grownBy w' (some B) := ⟨h.os, h.tape, h.output, h.size, fun k hk _ => h.block k hk (by simp)⟩

end Go.Proofs.YtigdcgklpapfbaaGreatDoor

set_option linter.unusedVariables false
namespace Go.Proofs.YtigdcgklpapfbaaGreatDoor
open Go Go.Proofs Go.RowKit Go.Lib

abbrev FieldD := Str × Int × Bool
abbrev RecD := Int × List FieldD
abbrev ProbD := Int × Int × Int
def fieldVs (f : FieldD) : List Value := [.string (ba f.1), .int .i64 f.2.1, .bool f.2.2]
/-- The slice at A holds the fields l, in a block with P. -/
def FieldsIn (w : World) (P : Nat → Prop) (A : Option Addr) (l : List FieldD) : Prop :=
  l = [] ∨ ∃ b off, A = some ⟨b, off, none⟩ ∧ P b ∧ ∀ (j : Nat) (t : FieldD), l[j]? = some t → ∀ (i : Nat) (v : Value), (fieldVs t)[i]? = some v → w.cell? ⟨b, off + j * 3 + i, none⟩ = some v
theorem FieldsIn.kept {w w' : World} {P : Nat → Prop} {A : Option Addr} {l : List FieldD} (h : FieldsIn w P A l) (hk : ∀ b, P b → w'.heap[b]? = w.heap[b]?) : FieldsIn w' P A l := by
  rcases h with h | ⟨b, off, hA, hP, hc⟩
  · exact .inl h
  · exact .inr ⟨b, off, hA, hP, fun j t hj i v hv => (World.cell?_of_block (w := w) (hk b hP)).trans (hc j t hj i v hv)⟩
theorem FieldsIn.mono {w : World} {P P' : Nat → Prop} {A : Option Addr} {l : List FieldD} (h : FieldsIn w P A l) (hP : ∀ b, P b → P' b) : FieldsIn w P' A l := by
  rcases h with h | ⟨b, off, hA, hb, hc⟩
  · exact .inl h
  · exact .inr ⟨b, off, hA, hP b hb, hc⟩
theorem FieldsIn.below {w w' : World} {B : Nat} {A : Option Addr} {l : List FieldD} (h : FieldsIn w (fun b => b < B) A l) (hb : Below B w w') : FieldsIn w' (fun b => b < B) A l := h.kept fun b hB => hb.block b hB
theorem FieldsIn.at_ {w : World} {P : Nat → Prop} {A : Option Addr} {l : List FieldD} (h : FieldsIn w P A l) {k : Nat} (hk : k < l.length) :
    ∃ b off, A = some ⟨b, off, none⟩ ∧ P b ∧ w.cell? ⟨b, off + k * 3, none⟩ = some (.string (ba l[k].1)) ∧ w.cell? ⟨b, off + k * 3 + 1, none⟩ = some (.int .i64 l[k].2.1) ∧ w.cell? ⟨b, off + k * 3 + 2, none⟩ = some (.bool l[k].2.2) := by
  rcases h with h | ⟨b, off, hA, hP, hc⟩
  · subst h; simp at hk
  · have hg := List.getElem?_eq_getElem hk
    exact ⟨b, off, hA, hP, hc k _ hg 0 _ rfl, hc k _ hg 1 _ rfl, hc k _ hg 2 _ rfl⟩
/-- The slice at A holds the records l, in blocks with P. -/
def RecsIn (w : World) (P : Nat → Prop) (A : Option Addr) (l : List RecD) : Prop :=
  l = [] ∨ ∃ b off, A = some ⟨b, off, none⟩ ∧ P b ∧ ∀ (j : Nat) (r : RecD), l[j]? = some r → ∃ A' c', FieldsIn w P A' r.2 ∧ r.2.length ≤ c' ∧ c' ≤ 9223372036854775807 ∧ w.cell? ⟨b, off + j * 2, none⟩ = some (.int .i64 r.1) ∧ w.cell? ⟨b, off + j * 2 + 1, none⟩ = some (.slice A' r.2.length c')
theorem RecsIn.kept {w w' : World} {P : Nat → Prop} {A : Option Addr} {l : List RecD} (h : RecsIn w P A l) (hk : ∀ b, P b → w'.heap[b]? = w.heap[b]?) : RecsIn w' P A l := by
  rcases h with h | ⟨b, off, hA, hP, hc⟩
  · exact .inl h
  · refine .inr ⟨b, off, hA, hP, fun j r hj => ?_⟩
    obtain ⟨A', c', h1, h2, h3, h4, h5⟩ := hc j r hj
    exact ⟨A', c', h1.kept hk, h2, h3, (World.cell?_of_block (w := w) (hk b hP)).trans h4, (World.cell?_of_block (w := w) (hk b hP)).trans h5⟩
theorem RecsIn.mono {w : World} {P P' : Nat → Prop} {A : Option Addr} {l : List RecD} (h : RecsIn w P A l) (hP : ∀ b, P b → P' b) : RecsIn w P' A l := by
  rcases h with h | ⟨b, off, hA, hb, hc⟩
  · exact .inl h
  · refine .inr ⟨b, off, hA, hP b hb, fun j r hj => ?_⟩
    obtain ⟨A', c', h1, h2, h3, h4, h5⟩ := hc j r hj
    exact ⟨A', c', h1.mono hP, h2, h3, h4, h5⟩
theorem RecsIn.below {w w' : World} {B : Nat} {A : Option Addr} {l : List RecD} (h : RecsIn w (fun b => b < B) A l) (hb : Below B w w') : RecsIn w' (fun b => b < B) A l := h.kept fun b hB => hb.block b hB
theorem RecsIn.at_ {w : World} {P : Nat → Prop} {A : Option Addr} {l : List RecD} (h : RecsIn w P A l) {k : Nat} (hk : k < l.length) :
    ∃ b off A' c', A = some ⟨b, off, none⟩ ∧ P b ∧ FieldsIn w P A' l[k].2 ∧ l[k].2.length ≤ c' ∧ c' ≤ 9223372036854775807 ∧ w.cell? ⟨b, off + k * 2, none⟩ = some (.int .i64 l[k].1) ∧ w.cell? ⟨b, off + k * 2 + 1, none⟩ = some (.slice A' l[k].2.length c') := by
  rcases h with h | ⟨b, off, hA, hP, hc⟩
  · subst h; simp at hk
  · obtain ⟨A', c', h1, h2, h3, h4, h5⟩ := hc k _ (List.getElem?_eq_getElem hk)
    exact ⟨b, off, A', c', hA, hP, h1, h2, h3, h4, h5⟩

/-! ### rows that the call owns: times, rooms, problems -/
theorem infoTime : (Tryz.prog.info? 66).map (fun i => (i.zero, i.size, i.bytes)) = some (some (.agg #[.int .i64 0, .int .i64 0, .int .i64 0, .int .i64 0]), 4, 32) := by kernel_rfl
theorem infoProb : (Tryz.prog.info? 89).map (fun i => (i.zero, i.size, i.bytes)) = some (some (.agg #[.int .i64 0, .int .i64 0, .int .i64 0, .int .i64 0]), 4, 32) := by kernel_rfl
def timeVals (l : List TimeD) : List Value := l.flatMap timeVs
theorem timeVals_app (a b : List TimeD) : timeVals (a ++ b) = timeVals a ++ timeVals b := by simp [timeVals]
theorem timeVals_get : ∀ (l : List TimeD) (j : Nat) (t : TimeD), l[j]? = some t → ∀ (i : Nat) (v : Value), (timeVs t)[i]? = some v → (timeVals l)[j * 4 + i]? = some v
  | [], j, t, h, _, _, _ => by simp at h
  | a :: r, 0, t, h, i, v, hv => by
    simp at h
    subst h
    have hi : i < 4 := (List.getElem?_eq_some_iff.1 hv).1
    unfold timeVals
    rw [List.flatMap_cons, List.getElem?_append_left (by show _ < 4; omega)]
    simpa using hv
  | a :: r, j + 1, t, h, i, v, hv => by
    have := timeVals_get r j t (by simpa using h) i v hv
    unfold timeVals at this ⊢
    rw [List.flatMap_cons, List.getElem?_append_right (by show 4 ≤ _; omega)]
    show (List.flatMap timeVs r)[(j + 1) * 4 + i - 4]? = _
    rw [show (j + 1) * 4 + i - 4 = j * 4 + i by omega]
    exact this
theorem timeVals_one : ∀ (l : List TimeD), ∀ u ∈ timeVals l, u.oneCell' = true := by
  intro l u hu
  obtain ⟨t, _, h⟩ := List.mem_flatMap.1 hu
  simp [timeVs] at h
  rcases h with rfl | rfl | rfl | rfl <;> rfl
/-- A row of times that the call owns. -/
def TimeRow (w : World) (B : Nat) (v : Value) (l : List TimeD) : Prop := w.ownsRow B 66 4 v l.length (timeVals l)
theorem TimeRow.timesIn {w : World} {B : Nat} {v : Value} {l : List TimeD} (h : TimeRow w B v l) (hle : ∀ t ∈ l, t.2.2.1 ≤ 9223372036854775807) : ∃ A c, v = .slice A l.length c ∧ l.length ≤ c ∧ c ≤ 9223372036854775807 ∧ TimesIn w (fun b => B ≤ b ∧ b < w.heap.size) A l := by
  have h' := h
  rcases h.2 with ⟨hv, h0⟩ | ⟨g, cap, cur, hv, hB, hg, h1, h2, _⟩
  · have hl : l = [] := List.eq_nil_of_length_eq_zero h0
    subst hl
    exact ⟨none, 0, hv, Nat.le_refl _, by omega, TimesIn.nil _ _ _⟩
  · refine ⟨_, cap, hv, h1, by unfold maxLen at h2; omega, hle, .inr ⟨g, 0, rfl, ⟨hB, (Array.getElem?_eq_some_iff.1 hg).1⟩, fun j t hj i v' hv' => ?_⟩⟩
    have := World.ownsRow.cells h' (g := g) (by rw [hv]; rfl) (j * 4 + i) v' (timeVals_get l j t hj i v' hv')
    rw [Addr.add_lit] at this
    rw [← Nat.add_assoc] at this
    exact this
def probVs (p : ProbD) : List Value := [.int .i64 0, .int .i64 p.1, .int .i64 p.2.1, .int .i64 p.2.2]
def probVals (l : List ProbD) : List Value := l.flatMap probVs
theorem probVals_app (a b : List ProbD) : probVals (a ++ b) = probVals a ++ probVals b := by simp [probVals]
def ProbsRow (w : World) (B : Nat) (v : Value) (l : List ProbD) : Prop := w.ownsRow B 89 4 v l.length (probVals l)
end Go.Proofs.YtigdcgklpapfbaaGreatDoor

set_option linter.unusedVariables false
namespace Go.Proofs.YtigdcgklpapfbaaGreatDoor
open Go Go.Proofs Go.RowKit Go.Lib

def sortS (l : List Str) : List Str := l.mergeSort fun x y => decide (x ≤ y)
theorem sortS_len (l : List Str) : (sortS l).length = l.length := by unfold sortS; exact List.length_mergeSort l
def seatsM (s : Str) : Int × Int := if numD 4 s = 0 then (0, 4) else ((numD 4 s : Nat), 0)
def featsM (s : Str) : List Str × Int := if (S3.listM s).2 ≠ 0 then ([], (S3.listM s).2) else if 8 < (S3.listM s).1.length then ([], 2) else (sortS (S3.listM s).1, 0)
def tgo (d s b m n : Int) : List Str → List TimeD → List TimeD × Int
  | [], acc => (acc, 0)
  | p :: ps, acc => if (timeM d s b m n p).2 ≠ 0 then ([], (timeM d s b m n p).2) else tgo d s b m n ps (acc ++ [(timeM d s b m n p).1])
def timesM (d s b m n : Int) (x : Str) : List TimeD × Int :=
  if x = [] then ([], 0) else if (tgo d s b m n (S3.splitL x) []).2 ≠ 0 then ([], (tgo d s b m n (S3.splitL x) []).2)
  else if 24 < (tgo d s b m n (S3.splitL x) []).1.length then ([], 2) else ((tgo d s b m n (S3.splitL x) []).1, 0)
def setF (d s b m n : Int) (i : Nat) (x : Str) (r : RoomD) : RoomD × Int :=
  match i with
  | 0 => if S3.validC x = true then ((x, r.2), 0) else (([], r.2), 10)
  | 1 => if S3.validC x = true then ((r.1, x, r.2.2), 0) else ((r.1, [], r.2.2), 10)
  | 2 => ((r.1, r.2.1, (seatsM x).1, r.2.2.2), (seatsM x).2)
  | 3 => ((r.1, r.2.1, r.2.2.1, (featsM x).1, r.2.2.2.2), (featsM x).2)
  | 4 => ((r.1, r.2.1, r.2.2.1, r.2.2.2.1, (timesM d s b m n x).1), (timesM d s b m n x).2)
  | _ => (r, 0)
def zeroR : RoomD := ([], [], 0, [], [])
def efold (d s b m n : Int) : List FieldD → Nat → RoomD → RoomD × Int × Int
  | [], _, r => (r, 0, 0)
  | f :: fs, i, r => if (setF d s b m n i f.1 r).2 ≠ 0 then ((setF d s b m n i f.1 r).1, f.2.1, (setF d s b m n i f.1 r).2) else efold d s b m n fs (i + 1) (setF d s b m n i f.1 r).1
/-- A room out of the fields of a record; the column of the field in question; the error. -/
def entryM (d s b m n : Int) (fs : List FieldD) : RoomD × Int × Int := if fs.length ≠ 5 then (zeroR, 0, 9) else efold d s b m n fs 0 zeroR
theorem efold_step (d s b m n : Int) (fs : List FieldD) (i : Nat) (h : i < fs.length) (r : RoomD) :
    efold d s b m n (fs.drop i) i r = if (setF d s b m n i fs[i].1 r).2 ≠ 0 then ((setF d s b m n i fs[i].1 r).1, fs[i].2.1, (setF d s b m n i fs[i].1 r).2) else efold d s b m n (fs.drop (i + 1)) (i + 1) (setF d s b m n i fs[i].1 r).1 := by
  rw [List.drop_eq_getElem_cons h, efold]
def addC (l : List RoomD) (c : Str) : Int := if c ∈ codesR l then 11 else if l.length = 16 then 2 else 0
/-- One record more. -/
def recM (d s b m n : Int) (st : List RoomD × List ProbD) (x : RecD) : List RoomD × List ProbD :=
  if (entryM d s b m n x.2).2.2 ≠ 0 then (st.1, st.2 ++ [(x.1, (entryM d s b m n x.2).2.1, (entryM d s b m n x.2).2.2)])
  else if addC st.1 (entryM d s b m n x.2).1.1 ≠ 0 then (st.1, st.2 ++ [(x.1, (entryM d s b m n x.2).2.1, addC st.1 (entryM d s b m n x.2).1.1)])
  else (st.1 ++ [(entryM d s b m n x.2).1], st.2)
def recsM (d s b m n : Int) (l : List RecD) : List RoomD × List ProbD := l.foldl (recM d s b m n) ([], [])
def readM (d s b m n : Int) (l : List RecD) : List RoomD × List ProbD := if frameB d s b m n = true then recsM d s b m n l else ([], [(0, 0, 1)])
theorem recsM_take (d s b m n : Int) (l : List RecD) (i : Nat) (h : i < l.length) : recsM d s b m n (l.take (i + 1)) = recM d s b m n (recsM d s b m n (l.take i)) l[i] := by
  unfold recsM
  rw [List.take_succ_eq_append_getElem h, List.foldl_append]
  rfl
theorem recM_room_len (d s b m n : Int) (st : List RoomD × List ProbD) (x : RecD) (h : st.1.length ≤ 16) : (recM d s b m n st x).1.length ≤ 16 := by
  unfold recM
  split
  · exact h
  · split
    · exact h
    · rename_i h2
      unfold addC at h2
      by_cases h3 : (entryM d s b m n x.2).1.1 ∈ codesR st.1
      · rw [if_pos h3] at h2; simp at h2
      · rw [if_neg h3] at h2
        by_cases h4 : st.1.length = 16
        · rw [if_pos h4] at h2; simp at h2
        · simp; omega
theorem recsM_len (d s b m n : Int) (l : List RecD) : (recsM d s b m n l).1.length ≤ 16 := by
  unfold recsM
  have : ∀ (l : List RecD) (st : List RoomD × List ProbD), st.1.length ≤ 16 → (l.foldl (recM d s b m n) st).1.length ≤ 16 := by
    intro l
    induction l with
    | nil => exact fun st h => h
    | cons x r ih => exact fun st h => ih _ (recM_room_len d s b m n st x h)
  exact this l _ (by simp)
theorem recsM_probs (d s b m n : Int) (l : List RecD) : (recsM d s b m n l).2.length ≤ l.length := by
  unfold recsM
  have : ∀ (l : List RecD) (st : List RoomD × List ProbD), (l.foldl (recM d s b m n) st).2.length ≤ st.2.length + l.length := by
    intro l
    induction l with
    | nil => exact fun st => Nat.le_refl _
    | cons x r ih =>
      intro st
      rw [List.foldl_cons]
      refine Nat.le_trans (ih _) ?_
      have : (recM d s b m n st x).2.length ≤ st.2.length + 1 := by
        unfold recM
        split
        · simp
        · split <;> simp
      simp
      omega
  simpa using this l ([], [])
/-- The codes of the rooms that were read, in the map's words. -/
theorem addM_codes (l : List RoomD) (c : Str) : (addM (codesR l) c).2 = addC l c ∧ (addM (codesR l) c).1 = if addC l c = 0 then codesR l ++ [c] else codesR l := by
  unfold addM addC
  have e : (codesR l).length = l.length := by simp [codesR]
  rw [e]
  by_cases h : c ∈ codesR l
  · rw [if_pos h, if_pos h]; simp
  · rw [if_neg h, if_neg h]
    by_cases h2 : l.length = 16
    · rw [if_pos h2, if_pos h2]; simp
    · rw [if_neg h2, if_neg h2]; simp
end Go.Proofs.YtigdcgklpapfbaaGreatDoor
