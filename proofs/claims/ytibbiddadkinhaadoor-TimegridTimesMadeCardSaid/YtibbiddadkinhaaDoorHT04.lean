/-
  From a walk to a row, for every statement of this seat: a call that returns true and turns nothing that was there meets what a row asks. Condition: as the lemmas state.
  A range over a function whose iterator writes a variable that it has captured: the law of such a loop, in the form that weekset.Parse needs (one loop variable, a body that goes on or returns).
  The parts of a list: the library's strings.SplitSeq at ',' (its iterator, over whatever body the loop has). Condition: the string has fewer than 2^62 bytes.
-/
import Derived.Test.YtibbiddadkinhaaDoorHT01
import Derived.Test.YtibbiddadkinhaaDoorHT02
import Derived.Test.YtibbiddadkinhaaDoorHT03
import Derived.Test.YtibbiddadkinhaaDoorCards
import Derived.Test.YtibbiddadkinhaaDoorTie
import Derived.Test.YtibbiddadkinhaaDoorProg
import Derived.WalkKit
import Derived.WalkSpells
import Derived.WalkLawsBesides
import Derived.Lib.Hide
import Derived.Deep.QuietTactic
import Derived.BigQuiet
import Derived.Laws.Rows
import Derived.OwnWalk
import Derived.Lib.BufferWrite
import Derived.Lib.UnsafeStr
import Derived.Laws.IdiomStrings
import Derived.Laws.BytesArg
import Derived.Laws.BytesString
import Derived.Laws.OwnMore
import Derived.Lib.IndexLaws
import Derived.Lib.ItoaNum
import Derived.Lib.Atoi
import Derived.Laws.BitsAllLaws
import Derived.Laws.BitsLemmas
import Derived.Deep.MidRow
import Derived.Shelf.Strings.Builder1
import Derived.Shelf.Strings.Builder2
import Derived.Shelf.Strings.OnBuilder
import Derived.Shelf.Strings.BuilderF
import Derived.Shelf.Strings.BuilderK
import Derived.Shelf.Strings.Builder2Cap
import Derived.Shelf.Strconv.Atoi
import Derived.Shelf.Strconv.Itoa0
import Derived.Shelf.Strconv.Itoa1
import Derived.Shelf.LaysM
import Derived.Shelf.Strconv.Itoa2
import Derived.Shelf.Strconv.Itoa3
import Derived.Shelf.Strconv.AtoiErrFast
import Derived.Shelf.Strconv.ParseIntEmpty
import Derived.Shelf.Strconv.AtoiFail
import Derived.Shelf.Strconv.Clone
import Derived.Shelf.Strconv.SyntaxError
import Derived.Shelf.LaysC
import Derived.Shelf.Strconv.ToError
import Derived.Shelf.Strconv.AtoiErr
import Derived.Shelf.Strings.Search1
import Derived.Shelf.Strings.Search2
import Derived.Shelf.Strings.Search3
import Derived.Shelf.Strings.Cut
import Derived.Shelf.Strings.Shaped
import Derived.Shelf.Strings.Prefix
import Derived.Shelf.Unicode.DecodeSlow
import Derived.Shelf.Strings.BuilderCap
import Derived.Lib.AtoiErrMem
import Derived.Handy
import Derived.Lib.SmallJoins
import Derived.SizedLaws
import Derived.Stop.LaidErr
import Derived.Deep.DeepWitnessRowRef
import Derived.ProofKit
import Derived.OpenShut
import Derived.Deep.DeepHandedRow
import Derived.Deep.DeepLaidRun
import Derived.Lib.LaidU8
import Derived.Shelf.Vars
import Derived.RangeFuncNested
import Derived.RangeFuncBound
import Derived.RangeFuncCalls
import Derived.RangeFuncLeaves
import Derived.Shelf.Abstract
import Derived.Shelf.RegionOpen
import Derived.OwnWalkIn
import Derived.TacticsInMore
import Derived.LoopNIn
import Derived.LoopIn
set_option linter.unusedVariables false
namespace Go.Proofs.YtibbiddadkinhaaDoor
open Go Go.Proofs Go.ChangeShapes Go.WideShapes Go.ChangeAt Go.RowKit

section
variable {H : Type} {enc : TypeId × Value → H} {P : Program}
/-- Arguments below the heap's old size read as they did. -/
theorem trodAll_stays (hl : laidOutB P = true) {W W' : World} (hb : Below W.heap.size W W') {sp : Nat → Bool} : ∀ {ts : List TypeId} {vs : List Value} {ds : List (DataW H)} {ps : List MemPlace},
    (∀ t ∈ ts, P.readableRec t = true ∧ t < P.types.size) → DataW.TrodAll enc P W 0 (fun _ => true) true ts vs ds ps → (∀ x ∈ ps, x.block < W.heap.size) → (∀ x ∈ ps, sp x.block = true) → DataW.TrodAll enc P W' 0 sp true ts vs ds ps
  | [], vs, ds, ps, _, h, _, _ => by
    obtain ⟨rfl, rfl, rfl⟩ := trodAll_nil h
    exact trodAll_mk0
  | t :: ts, vs, ds, ps, ht, h, hlt, hsp => by
    obtain ⟨v, vs', d, ds', p, q, rfl, rfl, rfl, h0, hr⟩ := trodAll_cons h
    have hp : ∀ x ∈ p, x.block < W.heap.size := fun x hx => hlt x (List.mem_append.2 (.inl hx))
    refine trodAll_cons_mk (WideElems.Trod_stays hl (ht t (by simp)).1 (ht t (by simp)).2 h0 (fun x hx => hb.same (hp x hx)) (fun x hx => hsp x (List.mem_append.2 (.inl hx)))) ?_
    exact trodAll_stays hl hb (fun t' h' => ht t' (by simp [h'])) hr (fun x hx => hlt x (List.mem_append.2 (.inr hx))) (fun x hx => hsp x (List.mem_append.2 (.inr hx)))

/-- The law's end. -/
theorem law_post {f : Func} {s : ChangeSpec} {apart fresh again : Bool} {tb : TypeId} {W W' : World} {args : Array Value} {ds gs : List (DataW H)} {before : List MemPlace}
    (hl : laidOutB P = true) (hts : ∀ t ∈ f.params.toList, P.readableRec t = true ∧ t < P.types.size) (hres : f.resultTypes = #[tb]) (htb : P.underlying tb = some .bool)
    (hvars : s.vars = []) (hfn : s.fn H (ds ++ gs) = { results := [.lit (.bool true)], args := ds, vars := [] })
    (hW : DataW.Whole enc P f.params.toList s.vars apart W args.toList ds gs before) (hb : Below W.heap.size W W') :
    s.post enc P f apart fresh false again W args (.bool true) W' := by
  have hlt : ∀ p ∈ before, p.block < W.heap.size := fun p hp => hW.lt p hp
  have hW0 := hW
  obtain ⟨p, q, hA, hV, hpq, hz, hn⟩ := hW0
  rw [hvars] at hV
  obtain ⟨rfl, rfl⟩ := trodVars_none hV
  rw [List.append_nil] at hpq
  subst hpq
  have hr : ∀ (b : Nat) (sp : Nat → Bool) (hd : Bool), DataW.TrodAll enc P W' b sp hd f.resultTypes.toList ((Value.bool true).resultList f.resultTypes.size) (s.fn H (ds ++ [])).results [] := fun b sp hd => by
    rw [hres, hfn]
    exact trodAll_cons_mk (shut_bool htb true) trodAll_mk0
  have ha : ∀ sp : Nat → Bool, (∀ x ∈ before, sp x.block = true) → DataW.TrodAll enc P W' 0 sp true f.params.toList args.toList (s.fn H (ds ++ [])).args before := fun sp hsp => by
    rw [hfn]
    exact trodAll_stays hl hb hts hA hlt hsp
  have hold : ∀ x ∈ before, (fun b => decide (b < W.heap.size)) x.block = true := fun x hx => by simpa using hlt x hx
  have hvs : ∀ sp : Nat → Bool, DataW.TrodVars enc P W' sp s.vars (s.fn H (ds ++ [])).vars [] := fun sp => by
    rw [hvars, hfn]
    exact rfl
  refine ⟨ds, [], before, [], before, [], hW, hr _ _ _, ha _ hold, hvs _, World.keptBut_mono (fun x hx => ⟨hx, .inr (.inl hx)⟩) (hb.frame (· ∈ before)), fun _ => ?_⟩
  refine ⟨?_, _, _, ([] ++ before) ++ [], ⟨[] ++ before, [], trodAll_append (ha _ (fun _ _ => rfl)) (hr _ _ _), hvs _, rfl, ?_, ?_⟩, ?_⟩
  · intro j t r hj hr'
    rw [hres] at hj hr'
    match j, hj, hr' with
    | 0, hj, hr' =>
      simp at hj
      subst hj
      obtain rfl : (Value.bool true) = r := by simpa [Value.resultList] using hr'
      exact okWide_bool_mk htb true
    | j + 1, hj, _ => simp at hj
  · intro b off hp
    have hin : MemPlace.cell b off ∈ before := by simpa using hp
    rw [hb.frozen (hlt _ hin)]
    exact hz b off hin
  · intro h
    simpa using hn h
  · intro x hx _
    simpa using hx
end

theorem own : ownKnob Tryd.prog.godebug = none := by kernel_rfl
theorem laidOut : laidOutB Tryd.prog = true := by kernel_rfl
theorem row3 : Tryd.prog.readableRec 3 = true ∧ 3 < Tryd.prog.types.size := ⟨by kernel_rfl, of_decide_eq_true (by kernel_rfl)⟩
theorem rowGrid : Tryd.prog.readableRec 23 = true ∧ 23 < Tryd.prog.types.size := ⟨by kernel_rfl, of_decide_eq_true (by kernel_rfl)⟩
theorem uErr : Tryd.prog.underlying 93 = some (.interface #[("Error", 96)]) := by kernel_rfl
theorem star : "*" ++ "errors.errorString" = "*errors.errorString" := by decide
theorem rowTimes : Tryd.prog.readableRec 26 = true ∧ 26 < Tryd.prog.types.size := ⟨by kernel_rfl, of_decide_eq_true (by kernel_rfl)⟩
theorem rowPtr (u : TypeId) (h : Tryd.prog.typeName? 3 u = some "*errors.errorString") : u = 142 :=
  typeName_ptr_named (nm := "errors.errorString") (by rw [star]; kernel_rfl) (by kernel_rfl) (by decide) u (by rw [star]; exact h)
theorem gSyn : Tryd.prog.globalNamed "strconv.ErrSyntax" = some 6 := by kernel_rfl
theorem gNames : Tryd.prog.globalNamed "timetable/weekset.names" = some 1 := by kernel_rfl
theorem gDays : Tryd.prog.globalNamed "timetable/timegrid.days" = some 0 := by kernel_rfl
section
variable {H : Type} {enc : TypeId × Value → H} {w : World} {base : Nat} {sp : Nat → Bool} {held : Bool}
theorem take1 {cs : List Value} {k : Nat} {v : Value} (h : (cs.drop k).take 1 = [v]) : cs[k]? = some v := by
  have := congrArg (·[0]?) h
  simpa [List.getElem?_take, List.getElem?_drop] using this
theorem name_cells {fuel : Nat} {cs : List Value} {d : List (DataW H)} {p : List MemPlace} {T : Str} {m : Int} {a b : Bool} (h : DataW.trod enc Tryd.prog w base sp held fuel 85 cs = some (.agg d, p)) (hd : d = [.lit (.string T), .lit (.int .i64 m), .lit (.bool a), .lit (.bool b)]) :
    cs = [.string ⟨T.toArray⟩, .int .i64 m, .bool a, .bool b] := by
  obtain ⟨y0, y1, y2, y3, n, hx, hl, h0, h1, h2, h3⟩ := Joins.trod_struct4 Tryd.underlying85 h
  rw [show Tryd.prog.cellsOf 85 = 4 by kernel_rfl] at hl
  dsimp only at h0 h1 h2 h3
  rw [show Tryd.prog.cellsOf 9 = 1 by kernel_rfl] at h0
  rw [show Tryd.prog.cellsOf 3 = 1 by kernel_rfl] at h1
  rw [show Tryd.prog.cellsOf 4 = 1 by kernel_rfl] at h2 h3
  obtain ⟨s, hc0, rfl, _⟩ := DataW.trod_string Tryd.underlying9 h0
  obtain ⟨z, hc1, rfl, _⟩ := DataW.trod_int Tryd.underlying3 h1
  obtain ⟨x, hc2, rfl⟩ := DataW.trod_bool Tryd.underlying4 h2
  obtain ⟨y, hc3, rfl⟩ := DataW.trod_bool Tryd.underlying4 h3
  rw [hd] at hx
  simp only [Prod.mk.injEq, DataW.agg.injEq, List.cons.injEq, DataW.lit.injEq, Lit.string.injEq, Lit.int.injEq, Lit.bool.injEq, true_and, and_true] at hx
  obtain ⟨⟨hT, rfl, rfl, rfl⟩, _⟩ := hx
  have e : (⟨T.toArray⟩ : ByteArray) = s := by rw [hT]
  rw [e]
  match cs, hl with
  | [c0, c1, c2, c3], _ =>
    have := take1 hc0
    have := take1 hc1
    have := take1 hc2
    have := take1 hc3
    simp_all
theorem name_cell {fuel : Nat} {cs : List Value} {p : List MemPlace} (h : DataW.trod enc Tryd.prog w base sp held fuel 86 cs = some (Rows.laid_timetable_weekset_names, p)) (k : Nat) (hk : k < 5) : (cs.drop (k * 4)).take 4 = (nv k).toList := by
  obtain ⟨f', d, q, hd, ht⟩ := Lib.array_elem Tryd.underlying86 h k hk
  rw [show Tryd.prog.cellsOf 85 = 4 by kernel_rfl] at ht
  rcases (show k = 0 ∨ k = 1 ∨ k = 2 ∨ k = 3 ∨ k = 4 by omega) with rfl | rfl | rfl | rfl | rfl
  all_goals
    injection hd with hd
    rw [← hd] at ht
    exact name_cells ht rfl
theorem day_cell {fuel : Nat} {cs : List Value} {p : List MemPlace} (h : DataW.trod enc Tryd.prog w base sp held fuel 59 cs = some (Rows.laid_timetable_timegrid_days, p)) (k : Nat) (hk : k < 7) : cs[k]? = some (.string (ba (dayS k))) := by
  obtain ⟨f', d, q, hd, ht⟩ := Lib.array_elem Tryd.underlying59 h k hk
  rw [show Tryd.prog.cellsOf 9 = 1 by kernel_rfl, Nat.mul_one] at ht
  obtain ⟨s, hcs, hx, _⟩ := DataW.trod_string Tryd.underlying9 ht
  rw [take1 hcs]
  injection hx with hx _
  subst hx
  have e : lst s = dayS k := by
    rcases (show k = 0 ∨ k = 1 ∨ k = 2 ∨ k = 3 ∨ k = 4 ∨ k = 5 ∨ k = 6 by omega) with rfl | rfl | rfl | rfl | rfl | rfl | rfl
    all_goals
      injection hd with hd
      injection hd with hd
      injection hd with hd
      exact hd.symm
  rw [ba_of e]
end
theorem nameCells_at : ∀ (j : Nat) (v : Value), nameCells[j]? = some v → j / 4 < 5 ∧ (nv (j / 4)).toList[j % 4]? = some v := by
  intro j v h
  have hj : j < 20 := (List.getElem?_eq_some_iff.1 h).1
  rcases (show j = 0 ∨ j = 1 ∨ j = 2 ∨ j = 3 ∨ j = 4 ∨ j = 5 ∨ j = 6 ∨ j = 7 ∨ j = 8 ∨ j = 9 ∨ j = 10 ∨ j = 11 ∨ j = 12 ∨ j = 13 ∨ j = 14 ∨ j = 15 ∨ j = 16 ∨ j = 17 ∨ j = 18 ∨ j = 19 by omega) with rfl | rfl | rfl | rfl | rfl | rfl | rfl | rfl | rfl | rfl | rfl | rfl | rfl | rfl | rfl | rfl | rfl | rfl | rfl | rfl
  all_goals exact ⟨by decide, h⟩
/-- The variable ErrSyntax holds an error. -/
theorem errSyntax_ofL {W : World} {L : List (String × DataW Unit)} (hL : laidMet Tryd.prog (("strconv.ErrSyntax", Rows.laid_strconv_ErrSyntax) :: L) W) : ∃ ev, W.cell? ⟨6, 0, none⟩ = some ev ∧ (ev = .nilIface ∨ ∃ te pe, ev = .iface te pe) := by
  obtain ⟨a, s, hv, _⟩ := laid_sentinel hL gSyn (ti := 93) (tp := 142) (te := 144) (ts := 9) (f := { name := "s", type := 9, offset := 0, embedded := false, tag := "", pkgPath := "errors", byteOffset := 0 }) (ms := #[("Error", 96)]) (by kernel_rfl) uErr rowPtr (by kernel_rfl) (by kernel_rfl) rfl rfl (by kernel_rfl) (by kernel_rfl) (by kernel_rfl)
  exact ⟨_, World.var?_cell gSyn hv 0, .inr ⟨_, _, rfl⟩⟩
theorem names_ofL {W : World} {L : List (String × DataW Unit)} (hL : laidMet Tryd.prog L W) (hm : ("timetable/weekset.names", (Rows.laid_timetable_weekset_names : DataW Unit)) ∈ L) : Names W := by
  obtain ⟨g, t, cs, fuel, p, hg, hty, hvar, hd⟩ := Lib.laidMet.reads hL hm
  obtain rfl := Option.some.inj (gNames.symm.trans hg)
  obtain rfl := Option.some.inj ((show (Tryd.prog.globals[1]?).map (·.type) = some 86 by kernel_rfl).symm.trans hty)
  intro j v hj
  rw [World.var?_cell gNames hvar j, ← Array.getElem?_toList]
  obtain ⟨h5, hv⟩ := nameCells_at j v hj
  rw [← name_cell hd (j / 4) h5, List.getElem?_take, if_pos (by omega), List.getElem?_drop, show j / 4 * 4 + j % 4 = j by omega] at hv
  exact hv
theorem days_ofL {W : World} {L : List (String × DataW Unit)} (hL : laidMet Tryd.prog L W) (hm : ("timetable/timegrid.days", (Rows.laid_timetable_timegrid_days : DataW Unit)) ∈ L) : Days W := by
  obtain ⟨g, t, cs, fuel, p, hg, hty, hvar, hd⟩ := Lib.laidMet.reads hL hm
  obtain rfl := Option.some.inj (gDays.symm.trans hg)
  obtain rfl := Option.some.inj ((show (Tryd.prog.globals[0]?).map (·.type) = some 59 by kernel_rfl).symm.trans hty)
  intro j v hj
  have hj7 : j < 7 := (List.getElem?_eq_some_iff.1 hj).1
  rw [World.var?_cell gDays hvar j, ← Array.getElem?_toList, day_cell hd j hj7, ← hj]
  rcases (show j = 0 ∨ j = 1 ∨ j = 2 ∨ j = 3 ∨ j = 4 ∨ j = 5 ∨ j = 6 by omega) with rfl | rfl | rfl | rfl | rfl | rfl | rfl <;> rfl
theorem env_ofL {W : World} (h : Names W) (he : ∃ ev, W.cell? ⟨6, 0, none⟩ = some ev ∧ (ev = .nilIface ∨ ∃ te pe, ev = .iface te pe)) : Env W := by
  obtain ⟨ev, h1, h2⟩ := he
  exact ⟨h, ⟨ev, h1, h2⟩, World.block_lt_of_cell? W _ h1⟩
/-- A world in which the variables hold what their initialisers lay. -/
def cellsOfAgg : DataW Unit → Array Value
  | .agg l => (l.map fun | .lit (.int k z) => Value.int k z | _ => undef).toArray
  | _ => #[]
def acceptCells : Array Value := ((List.range 16).flatMap fun i => [Value.int .u8 (Lib.accLo i), Value.int .u8 (Lib.accHi i)]).toArray
def firstCells : Array Value := ((List.range 256).map fun b => Value.int .u8 (Lib.firstT b)).toArray
noncomputable def laidWorld (os : Os) : World :=
  let N := (World.settled Tryd.prog os).heap.size
  let w0 := World.holding Tryd.prog os ⟨#[.cells #[.string ⟨#[105, 110, 118, 97, 108, 105, 100, 32, 115, 121, 110, 116, 97, 120]⟩] 144, .cells #[.string ⟨#[118, 97, 108, 117, 101, 32, 111, 117, 116, 32, 111, 102, 32, 114, 97, 110, 103, 101]⟩] 144], #[], []⟩
  let put (h : Array Obj) (g : Nat) (cs : Array Value) : Array Obj := h.modify g fun
    | .cells _ t frozen => .cells cs t frozen
    | o => o
  let h3 := put (put (put (put (put (put (put (put (put (w0.heap) 1 nameCells.toArray) 0 dayCells.toArray) 4 firstCells) 5 acceptCells) 6 #[.iface 142 (.pointer (some ⟨N, 0, none⟩))]) 7 #[.iface 142 (.pointer (some ⟨N + 1, 0, none⟩))]) 3 (cellsOfAgg Rows.laid_internal_strconv_uint64pow10)) 8 (cellsOfAgg Rows.laid_math_bits_deBruijn32tab)) 9 (cellsOfAgg Rows.laid_math_bits_deBruijn64tab)
  { w0 with heap := h3 }
end Go.Proofs.YtibbiddadkinhaaDoor

set_option linter.unusedVariables false
namespace Go.Proofs.YtibbiddadkinhaaDoor
open Go Go.Proofs Go.RowKit Go.Lib

/-- A string comes to the loop's body: the round of loop l, from state s to state nx s x. -/
def Rounds {σ : Type} (n : Nat) (P : Program) (l : Nat) (Ok : σ → ByteArray → Prop) (nx : σ → ByteArray → σ) (J : σ → World → Prop) (Jx : World → Prop) : Prop :=
  ∀ s x W, J s W → Ok s x → YieldAt Fence.wide (n - 1) P l #[.string x] W fun e W' => (e = .returned (.bool true) ∧ J (nx s x) W') ∨ (e = .returned (.bool false) ∧ Jx W')
/-- The iterator's word: for whatever the rounds keep, so long as it lets the iterator write its own variable (block B). -/
def IterAt {σ : Type} (n : Nat) (P : Program) (gf : Nat) (lb : Array Value) (B : Nat) (Ok : σ → ByteArray → Prop) (nx : σ → ByteArray → σ) (Fin : σ → Prop) (I : σ → World → Prop) (s0 : σ) : Prop :=
  ∀ (l : Nat) (J : σ → World → Prop) (Jx : World → Prop) (W : World), (∀ s W, J s W → I s W) →
    (∀ s s' W v, J s W → I s' (W.setCell ⟨B, 0, none⟩ v) → J s' (W.setCell ⟨B, 0, none⟩ v)) →
    Rounds n P l Ok nx J Jx → J s0 W →
    CallsIn Fence.wide n P gf (#[.func (.yield l) #[] #[]] ++ lb) W fun e W' => (∃ v, e = .returned v) ∧ ((∃ s, Fin s ∧ J s W') ∨ Jx W')
/-- How a round's body may be left. -/
def bodyOut (B : Nat) (I' Ix : World → Prop) (W : World) : Exit → Act → World → Prop
  | .normal, _, W' => KeepsFrom B W W' ∧ I' W'
  | .ret, _, W' => KeepsFrom B W W' ∧ Ix W'
  | _, _, _ => False

set_option maxHeartbeats 1000000 in
theorem range_own {P : Program} {σ : Type} {g : Operand} {ps : Array Tmp} {assign body : Code} {Q : Exit → Act → World → Prop} {a : Act} {w : World} {n : Nat} (h1 : 1 ≤ n)
    {gf : Nat} {lb : Array Value} (hg : a.eval g = .func (.func gf) #[] lb) (eg : ∀ args w, (callFunc gf args).run P w = .ok (.enter gf args) w)
    (B : Nat) (hB : B < w.heap.size) (Ok : σ → ByteArray → Prop) (nx : σ → ByteArray → σ) (Fin : σ → Prop) (I : σ → World → Prop) (Ix : World → Prop) (s0 : σ)
    (hit : IterAt (n - 1) P gf lb B Ok nx Fin I s0) (hps : ps.size = 1)
    (hI : OwnFrom w.heap.size I) (hIx : OwnFrom w.heap.size (fun (_ : Unit) W => Ix W)) (h0 : I s0 w) (a₁ : ByteArray → Act)
    (hassign : ∀ (l : Nat) (x : ByteArray) (W : World) (K : Act → World → Prop), K (a₁ x) W →
      assign.wpIn (Fence.wide.inRound l) (n - 1 - 1) P (Exit.then K (fun _ _ _ => False)) { tmps := (ps.zip #[.string x]).foldl (fun t (p, v) => t.setIfInBounds p v) a.tmps, defers := [] } W)
    (hbody : ∀ (l : Nat) (s : σ) (x : ByteArray) (W : World), I s W → Ok s x → body.wpIn (Fence.wide.inRound l) (n - 1 - 1) P (bodyOut w.heap.size (I (nx s x)) Ix W) (a₁ x) W)
    (hdone : ∀ (D : Nat) (s : σ) (W : World), w.heap.size ≤ D → Fin s → I s W → W.heap[D]? = some (.deferred (some [])) → Q .normal { a with defers := { target := .collected D, args := #[] } :: a.defers } W)
    (hstop : ∀ (D : Nat) (W : World), w.heap.size ≤ D → Ix W → W.heap[D]? = some (.deferred (some [])) → Code.ret.wpIn Fence.wide n P Q { a with defers := { target := .collected D, args := #[] } :: a.defers } W) :
    (Code.rangeFunc g ps assign body).wpIn Fence.wide n P Q a w := by
  refine wpIn_rangeFunc fun fn hfn => ?_
  let L := w.heap.size + 1
  let rec_ : LoopState → Option Code → Loop := fun st pe => { state := st, pending := pe, fn, tmps := a.tmps, params := ps, assign, body, defers := w.heap.size }
  obtain ⟨rec, hrec⟩ : ∃ rec : LoopState → Option Code → Loop, rec = rec_ := ⟨_, rfl⟩
  obtain ⟨W1, hW1⟩ : ∃ W1, (w.alloc (.deferred (some []))).alloc (.loop (rec .ready none)) = W1 := ⟨_, rfl⟩
  have hL1 : W1.heap[w.heap.size + 1]? = some (.loop (rec .ready none)) := by
    rw [← hW1]; have := World.alloc_heap_new (w.alloc (.deferred (some []))) (.loop (rec .ready none)); rwa [World.size_alloc] at this
  have hD1 : W1.heap[w.heap.size]? = some (.deferred (some [])) := by
    rw [← hW1]; exact (Below.heap_alloc _ _ _ (by simp)).trans (World.alloc_heap_new w _)
  have hI1 : I s0 W1 := by rw [← hW1]; exact hI.alloc _ (hI.alloc _ h0)
  refine ⟨w.heap.size + 1, [{ target := .collected w.heap.size, args := #[] }], W1, { target := .fn (.func gf) lb, args := #[.func (.yield (w.heap.size + 1)) #[] #[]] }, W1, gf,
    #[.func (.yield (w.heap.size + 1)) #[] #[]] ++ lb, W1, ?_, ?_, ?_, ?_, fun _ => h1, ?_⟩
  · rw [← hW1, hrec]; exact run_enterLoop_outer _ _ _ _ _
  · simp only [resolve, hg]
    simp [go_sem]
  · intro _ _; trivial
  · simp [invoke, go_sem, eg]
  · refine (hit (w.heap.size + 1)
      (fun s W => I s W ∧ W.heap[w.heap.size + 1]? = some (.loop (rec .ready none)) ∧ W.heap[w.heap.size]? = some (.deferred (some [])))
      (fun W => Ix W ∧ W.heap[w.heap.size + 1]? = some (.loop (rec .done (some .ret))) ∧ W.heap[w.heap.size]? = some (.deferred (some [])))
      W1 (fun _ _ h => h.1)
      (fun s s' W v h h' => ⟨h', (Below.heap_setCell _ _ _ _ (by show w.heap.size + 1 ≠ B; omega)).trans h.2.1, (Below.heap_setCell _ _ _ _ (by show w.heap.size ≠ B; omega)).trans h.2.2⟩)
      ?_ ⟨hI1, hL1, hD1⟩).mono ?_
    · rintro s x W ⟨hi, hl, hk⟩ hok
      have hlt : w.heap.size + 1 < W.heap.size := (Array.getElem?_eq_some_iff.1 hl).1
      have hy := run_yield (P := P) (args := #[.string x]) hl (by rw [hrec]; exact hps.symm)
      rw [hrec] at hy
      refine ⟨fn, _, assign, body, hy, roundIn_of_wpIn trivial (hassign _ x W _ ⟨_, run_beginRound hl (by rw [hrec]), ?_⟩)⟩
      have hl2 : (W.putObj (w.heap.size + 1) (.loop { rec .ready none with state := .busy })).heap[w.heap.size + 1]? = some (.loop { rec .ready none with state := .busy }) := World.putObj_heap_same hlt
      have hk2 : (W.putObj (w.heap.size + 1) (.loop { rec .ready none with state := .busy })).heap[w.heap.size]? = some (.deferred (some [])) := (World.putObj_heap_other (by omega)).trans hk
      refine wpIn_mono (hbody _ s x _ (hI.putObj _ hi (by omega) hl rfl) hok) ?_
      rintro e a3 W3 hp
      cases e with
      | normal =>
        obtain ⟨hk3, hi3⟩ := hp
        have hl3 := hk3.same _ _ (by omega) hl2 rfl
        have hr := run_endRound (P := P) none hl3
        exact ⟨_, _, hr, .inl ⟨rfl, hI.putObj _ hi3 (by omega) hl3 rfl, by rw [World.putObj_heap_same (Array.getElem?_eq_some_iff.1 hl3).1, hrec]; rfl,
          (World.putObj_heap_other (by omega)).trans (hk3.same _ _ (Nat.le_refl _) hk2 rfl)⟩⟩
      | ret =>
        obtain ⟨hk3, hi3⟩ := hp
        have hl3 := hk3.same _ _ (by omega) hl2 rfl
        have hr := run_endRound (P := P) (some .ret) hl3
        exact ⟨_, _, hr, .inr ⟨rfl, hIx.putObj (s := ()) _ hi3 (by omega) hl3 rfl, by rw [World.putObj_heap_same (Array.getElem?_eq_some_iff.1 hl3).1, hrec]; rfl,
          (World.putObj_heap_other (by omega)).trans (hk3.same _ _ (Nat.le_refl _) hk2 rfl)⟩⟩
      | exit id => exact hp.elim
      | goto t => exact hp.elim
      | panic ch => exact hp.elim
      | outgrown => exact hp.elim
    · rintro e W2 ⟨⟨v, rfl⟩, (⟨s, hF, hi, hl, hk⟩ | ⟨hi, hl, hk⟩)⟩
      · exact ⟨none, _, by have := run_endLoop (P := P) hl (by rw [hrec]; simp [rec_]); rw [hrec] at this; exact this, hdone _ s _ (Nat.le_refl _) hF (hI.putObj _ hi (by omega) hl rfl) ((World.putObj_heap_other (by omega)).trans hk)⟩
      · exact ⟨some .ret, _, by have := run_endLoop (P := P) hl (by rw [hrec]; simp [rec_]); rw [hrec] at this; exact this, hstop _ _ (Nat.le_refl _) (hIx.putObj (s := ()) _ hi (by omega) hl rfl) ((World.putObj_heap_other (by omega)).trans hk)⟩

end Go.Proofs.YtibbiddadkinhaaDoor

set_option linter.unusedVariables false
namespace Go.Proofs.YtibbiddadkinhaaDoor
open Go Go.Proofs Go.RowKit Go.Lib
attribute [local go_sem] Oper.semAt_some

theorem splitL_ne (l : Str) : splitL l ≠ [] := by
  cases l with
  | nil => simp [splitL]
  | cons c s => simp only [splitL]; split <;> simp
theorem splitL_none : ∀ (l : Str), indexByte l 44 < 0 → splitL l = [l]
  | [], _ => rfl
  | c :: s, h => by
    unfold indexByte at h
    split at h
    · omega
    · rename_i hc
      have hge := indexByte_ge s 44
      have hs : indexByte s 44 < 0 := by
        split at h
        · rename_i he; have := beq_iff_eq.1 he; omega
        · omega
      simp only [splitL, splitL_none s hs]
      rw [if_neg (fun e => hc (beq_iff_eq.2 e))]
      rfl
theorem splitL_at : ∀ (l : Str) (i : Nat), indexByte l 44 = i → splitL l = l.take i :: splitL (l.drop (i + 1))
  | [], i, h => by simp [indexByte] at h
  | c :: s, i, h => by
    unfold indexByte at h
    split at h
    · rename_i hc
      obtain rfl : i = 0 := by omega
      simp [splitL, beq_iff_eq.1 hc]
    · rename_i hc
      have hge := indexByte_ge s 44
      split at h
      · omega
      · obtain ⟨j, rfl⟩ : ∃ j, i = j + 1 := ⟨i - 1, by
          rename_i he
          have : indexByte s 44 ≠ -1 := fun e => he (beq_iff_eq.2 e)
          omega⟩
        have ih := splitL_at s j (by omega)
        simp only [splitL, ih]
        rw [if_neg (fun e => hc (beq_iff_eq.2 e))]
        rfl
theorem index_lt (l : Str) (i : Nat) (h : indexByte l 44 = i) : i < l.length := by
  have := (indexByte_some h).1
  rcases Nat.lt_or_ge i l.length with h' | h'
  · exact h'
  · rw [List.getElem?_eq_none h'] at this; cases this

abbrev St := List Str × ByteArray
def cellLen (B : Nat) (w : World) : Nat := match w.cell? ⟨B, 0, none⟩ with | some (.string r) => r.size | _ => 0
theorem cellLen_of {B : Nat} {w : World} {r : ByteArray} (h : w.cell? ⟨B, 0, none⟩ = some (.string r)) : cellLen B w = r.size := by unfold cellLen; rw [h]
/-- What the iterator's variables hold. -/
structure SplitVars (B : Nat) (r : ByteArray) (W : World) : Prop where
  s : W.cell? ⟨B, 0, none⟩ = some (.string r)
  fz : W.frozen? ⟨B, 0, none⟩ = false
  sep : W.cell? ⟨B + 1, 0, none⟩ = some (.string ⟨#[44]⟩)
  save : W.cell? ⟨B + 2, 0, none⟩ = some (.int .i64 0)

set_option maxHeartbeats 4000000 in
set_option maxRecDepth 100000 in
theorem split_iter (n : Nat) (B : Nat) (s : ByteArray) (hs : s.size ≤ 4611686018427387904) (I : St → World → Prop) (hc : ∀ st W, I st W → SplitVars B st.2 W)
    (hset : ∀ st r W, I st W → I (st.1, r) (W.setCell ⟨B, 0, none⟩ (.string r))) :
    IterAt n Tryd.prog 77 #[.pointer (some ⟨B + 1, 0, none⟩), .pointer (some ⟨B, 0, none⟩), .pointer (some ⟨B + 2, 0, none⟩)] B
      (fun st x => ∃ rest, splitL (lst s) = st.1 ++ lst x :: rest) (fun st x => (st.1 ++ [lst x], st.2)) (fun st => st.1 = splitL (lst s)) I ([], s) := by
  intro l J Jx W hJI hJs hY h0
  refine callsIn_of_wp Tryd.func77 rfl trivial ?_ rfl
  simp only [Tryd.ntmps77, List.size_toArray, List.length_cons, List.length_nil, Nat.reduceAdd, Nat.reduceSub, Array.replicate_succ, Array.replicate_zero, List.push_toArray, List.append_toArray, List.nil_append, List.cons_append]
  obtain ⟨c1, c2, c3, c4⟩ := hc _ _ (hJI _ _ h0)
  gi_wp2
  gi_loopw [] (fun wr => ∃ (pre : List Str) (r : ByteArray), splitL (lst s) = pre ++ splitL (lst r) ∧ r.size ≤ s.size ∧ J (pre, r) wr) (fun wr => cellLen B wr)
  case atStart => exact ⟨[], s, rfl, Nat.le_refl _, h0⟩
  case round =>
    obtain ⟨pre, r, hsp, hrs, hJ⟩ := hrel
    obtain ⟨d1, d2, d3, d4⟩ := hc _ _ (hJI _ _ hJ)
    have hmu := cellLen_of d1
    have cI := Tryd.strings_Index_one r 44 wr
    have hge := indexByte_ge r.data.toList 44
    by_cases hneg : indexByte r.data.toList 44 < 0
    · obtain ⟨fn, tmps, assign, body, hy, hR⟩ := hY (pre, r) r wr hJ ⟨[], by rw [hsp, splitL_none _ hneg]⟩
      gi_wp2_with fail
      refine ⟨trivial, fun h => (by cases h), ?_⟩
      refine (callsIn_wide.2 cI).mono ?_
      rintro e w' ⟨rfl, rfl⟩
      gi_wp2
      refine ⟨fun h => (by cases h), ?_⟩
      refine hR.mono ?_
      rintro e W3 (⟨rfl, hJ3⟩ | ⟨rfl, hJ3⟩)
      · gi_wp2
        go_end0
        exact ⟨⟨_, rfl⟩, .inl ⟨_, by rw [hsp, splitL_none _ hneg], hJ3⟩⟩
      · gi_wp2
        go_end0
        exact ⟨⟨_, rfl⟩, .inr hJ3⟩
    · obtain ⟨i, hi⟩ : ∃ i : Nat, indexByte r.data.toList 44 = i := ⟨(indexByte r.data.toList 44).toNat, by omega⟩
      have hil : i < r.size := by rw [Lib.size_eq]; exact index_lt _ _ hi
      have hsa := splitL_at (lst r) i hi
      rw [hi] at cI
      clear hneg hge
      obtain ⟨fn, tmps, assign, body, hy, hR⟩ := hY (pre, r) (r.extract 0 i) wr hJ ⟨_, by rw [hsp, hsa, lst_extract]; rfl⟩
      gi_wp2_with fail
      refine ⟨trivial, fun h => (by cases h), ?_⟩
      refine (callsIn_wide.2 cI).mono ?_
      rintro e w' ⟨rfl, rfl⟩
      gi_wp2
      refine ⟨fun h => (by cases h), ?_⟩
      refine hR.mono ?_
      rintro e W3 (⟨rfl, hJ3⟩ | ⟨rfl, hJ3⟩)
      · obtain ⟨e1, e2, e3, e4⟩ := hc _ _ (hJI _ _ hJ3)
        dsimp only at e1
        gi_wp2
        obtain ⟨R, hR2⟩ : ∃ R : ByteArray, r.extract (i + 1) r.size = R := ⟨_, rfl⟩
        have hlR : lst R = (lst r).drop (i + 1) := by rw [← hR2, lst_extract, List.take_of_length_le (by rw [← Lib.size_eq]; exact Nat.le_refl _)]
        have hRs : R.size < r.size := by rw [← hR2, ByteArray.size_extract]; omega
        rw [hR2, hmu]
        have hset2 := hset _ R _ (hJI _ _ hJ3)
        refine ⟨⟨pre ++ [lst (r.extract 0 i)], R, ?_, by omega, hJs _ _ _ _ hJ3 hset2⟩, ?_⟩
        · rw [hsp, hsa, lst_extract, hlR]
          simp
        · rw [cellLen_of (hc _ _ hset2).s]
          exact hRs
      · gi_wp2
        refine bodyPost_ret (results_none rfl _ _ _) rfl ?_
        exact ⟨⟨_, rfl⟩, .inr hJ3⟩

end Go.Proofs.YtibbiddadkinhaaDoor

