/-
  From a walk to a row, for every statement of stage 11: a call that returns true and turns nothing that was there meets what a row asks. Condition: as the lemmas state.
  Curricula as data, and in memory: slices of structs that came in, or that the call made. No program beyond the types' facts.
  The code whose number is greater: the program's after. Conditions: the library's variables hold what its text lays; the numbers are small.
  How many codes a range has: the program's rangeLength. Conditions: the library's variables hold what its text lays; both strings have at most 16 bytes.
-/
import Derived.Test.YtpaejkhaiifgdaaGreatDoorGN01
import Derived.Test.YtpaejkhaiifgdaaGreatDoorGN02
import Derived.Test.YtpaejkhaiifgdaaGreatDoorGN03
import Derived.Test.YtpaejkhaiifgdaaGreatDoorGN04
import Derived.Test.YtpaejkhaiifgdaaGreatDoorGN05
import Derived.Test.YtpaejkhaiifgdaaGreatDoorCards
import Derived.Test.YtpaejkhaiifgdaaGreatDoorTie
import Derived.Lib.Bytealg
import Derived.Lib.ItoaNum
import Derived.Lib.Atoi
import Derived.Lib.SlTrimSet
import Derived.Test.YtpaejkhaiifgdaaGreatDoorProg
import Derived.WalkKit
import Derived.WalkSpells
import Derived.WalkLawsBesides
import Derived.Lib.Hide
import Derived.Deep.QuietTactic
import Derived.BigQuiet
import Derived.Laws.Rows
import Derived.OwnWalk
import Derived.Lib.BufferWrite
import Derived.Lib.UnsafeStr
import Derived.Laws.IdiomStrings
import Derived.Laws.BytesArg
import Derived.Laws.BytesString
import Derived.Shelf.Strings.Builder1
import Derived.Shelf.Strings.Builder2
import Derived.Shelf.Strings.OnBuilder
import Derived.Shelf.Strings.Trim
import Derived.Shelf.Small.Utf8
import Derived.Shelf.Small.Strs
import Derived.Shelf.Strings.BuilderF
import Derived.Shelf.Strings.BuilderK
import Derived.Shelf.Strings.Builder2Cap
import Derived.Shelf.Strconv.Atoi
import Derived.Shelf.Strconv.Itoa0
import Derived.Shelf.Strconv.Itoa1
import Derived.Shelf.LaysM
import Derived.Shelf.Strconv.Itoa2
import Derived.Shelf.Strconv.Itoa3
import Derived.Shelf.Strconv.AtoiErrFast
import Derived.Shelf.Strconv.ParseIntEmpty
import Derived.Shelf.Strconv.AtoiFail
import Derived.Shelf.Strconv.Clone
import Derived.Shelf.Strconv.SyntaxError
import Derived.Shelf.LaysC
import Derived.Shelf.Strconv.ToError
import Derived.Shelf.Strconv.AtoiErr
import Derived.Shelf.Strings.Search1
import Derived.Shelf.Strings.Search2
import Derived.Shelf.Strings.Search3
import Derived.Shelf.Strings.Cut
import Derived.Shelf.Strings.Shaped
import Derived.Shelf.Strings.Prefix
import Derived.Shelf.Strings.Runes
import Derived.Shelf.Strings.AsciiSet
import Derived.Shelf.Bits.Mul64
import Derived.Shelf.Strings.Repeat
import Derived.Shelf.Unicode.DecodeSlow
import Derived.Shelf.Strings.BuilderCap
import Derived.Shelf.Slices.Turned
import Derived.Shelf.Strings.SlTrimAscii
import Derived.Lib.AtoiErrMem
import Derived.Handy
import Derived.Laws.ResultCell
import Derived.RegionTactic
import Derived.Laws.OwnMore
import Derived.Lib.IndexLaws
import Derived.IntWalk
import Derived.Laws.AppendOwn
import Derived.Laws.BitsAllLaws
import Derived.Laws.BitsLemmas
import Derived.Deep.RegionLaw
import Derived.Deep.RegionHeld3
import Derived.OneCell
import Derived.Laws.Tables
import Derived.Laws.CopyOwn
import Derived.OrdersHeld
import Derived.Deep.DeepCutAuto
import Derived.Deep.CutBlock
import Derived.Lib.SmallJoins
import Derived.SizedLaws
import Derived.Stop.LaidErr
import Derived.Deep.DeepWitnessRowRef
import Derived.ProofKit
import Derived.OpenShut
import Derived.Deep.DeepHandedRow
import Derived.Deep.DeepLaidRun
import Derived.Deep.Slices
import Derived.Lib.LaidU8
import Derived.Shelf.Vars
import Derived.Lib.Repeat
set_option linter.unusedVariables false
set_option maxRecDepth 100000
namespace Go.Proofs.YtpaejkhaiifgdaaGreatDoor.S11
open Go Go.Proofs Go.ChangeShapes Go.WideShapes Go.ChangeAt Go.RowKit Go.Deep Go.Proofs.YtpaejkhaiifgdaaGreatDoor Go.Proofs.YtpaejkhaiifgdaaGreatDoor.S10

theorem ba_ofL {T : ByteArray} {l : Str} (h : lst T = l) : T = ba l := by subst h; cases T; rfl
section
variable {H : Type} {enc : TypeId × Value → H} {P : Program}
/-- Arguments below the heap's old size read as they did. -/
theorem trodAll_stays (hl : laidOutB P = true) {W W' : World} (hb : Below W.heap.size W W') {sp : Nat → Bool} : ∀ {ts : List TypeId} {vs : List Value} {ds : List (DataW H)} {ps : List MemPlace},
    (∀ t ∈ ts, P.readableRec t = true ∧ t < P.types.size) → DataW.TrodAll enc P W 0 (fun _ => true) true ts vs ds ps → (∀ x ∈ ps, x.block < W.heap.size) → (∀ x ∈ ps, sp x.block = true) → DataW.TrodAll enc P W' 0 sp true ts vs ds ps
  | [], vs, ds, ps, _, h, _, _ => by
    obtain ⟨rfl, rfl, rfl⟩ := trodAll_nil h
    exact trodAll_mk0
  | t :: ts, vs, ds, ps, ht, h, hlt, hsp => by
    obtain ⟨v, vs', d, ds', p, q, rfl, rfl, rfl, h0, hr⟩ := trodAll_cons h
    have hp : ∀ x ∈ p, x.block < W.heap.size := fun x hx => hlt x (List.mem_append.2 (.inl hx))
    refine trodAll_cons_mk (WideElems.Trod_stays hl (ht t (by simp)).1 (ht t (by simp)).2 h0 (fun x hx => hb.same (hp x hx)) (fun x hx => hsp x (List.mem_append.2 (.inl hx)))) ?_
    exact trodAll_stays hl hb (fun t' h' => ht t' (by simp [h'])) hr (fun x hx => hlt x (List.mem_append.2 (.inr hx))) (fun x hx => hsp x (List.mem_append.2 (.inr hx)))

/-- The law's end. -/
theorem law_post {f : Func} {s : ChangeSpec} {apart fresh again : Bool} {tb : TypeId} {W W' : World} {args : Array Value} {ds gs : List (DataW H)} {before : List MemPlace}
    (hl : laidOutB P = true) (hts : ∀ t ∈ f.params.toList, P.readableRec t = true ∧ t < P.types.size) (hres : f.resultTypes = #[tb]) (htb : P.underlying tb = some .bool)
    (hvars : s.vars = []) (hfn : s.fn H (ds ++ gs) = { results := [.lit (.bool true)], args := ds, vars := [] })
    (hW : DataW.Whole enc P f.params.toList s.vars apart W args.toList ds gs before) (hb : Below W.heap.size W W') :
    s.post enc P f apart fresh false again W args (.bool true) W' := by
  have hlt : ∀ p ∈ before, p.block < W.heap.size := fun p hp => hW.lt p hp
  have hW0 := hW
  obtain ⟨p, q, hA, hV, hpq, hz, hn⟩ := hW0
  rw [hvars] at hV
  obtain ⟨rfl, rfl⟩ := trodVars_none hV
  rw [List.append_nil] at hpq
  subst hpq
  have hr : ∀ (b : Nat) (sp : Nat → Bool) (hd : Bool), DataW.TrodAll enc P W' b sp hd f.resultTypes.toList ((Value.bool true).resultList f.resultTypes.size) (s.fn H (ds ++ [])).results [] := fun b sp hd => by
    rw [hres, hfn]
    exact trodAll_cons_mk (shut_bool htb true) trodAll_mk0
  have ha : ∀ sp : Nat → Bool, (∀ x ∈ before, sp x.block = true) → DataW.TrodAll enc P W' 0 sp true f.params.toList args.toList (s.fn H (ds ++ [])).args before := fun sp hsp => by
    rw [hfn]
    exact trodAll_stays hl hb hts hA hlt hsp
  have hold : ∀ x ∈ before, (fun b => decide (b < W.heap.size)) x.block = true := fun x hx => by simpa using hlt x hx
  have hvs : ∀ sp : Nat → Bool, DataW.TrodVars enc P W' sp s.vars (s.fn H (ds ++ [])).vars [] := fun sp => by
    rw [hvars, hfn]
    exact rfl
  refine ⟨ds, [], before, [], before, [], hW, hr _ _ _, ha _ hold, hvs _, World.keptBut_mono (fun x hx => ⟨hx, .inr (.inl hx)⟩) (hb.frame (· ∈ before)), fun _ => ?_⟩
  refine ⟨?_, _, _, ([] ++ before) ++ [], ⟨[] ++ before, [], trodAll_append (ha _ (fun _ _ => rfl)) (hr _ _ _), hvs _, rfl, ?_, ?_⟩, ?_⟩
  · intro j t r hj hr'
    rw [hres] at hj hr'
    match j, hj, hr' with
    | 0, hj, hr' =>
      simp at hj
      subst hj
      obtain rfl : (Value.bool true) = r := by simpa [Value.resultList] using hr'
      exact okWide_bool_mk htb true
    | j + 1, hj, _ => simp at hj
  · intro b off hp
    have hin : MemPlace.cell b off ∈ before := by simpa using hp
    rw [hb.frozen (hlt _ hin)]
    exact hz b off hin
  · intro h
    simpa using hn h
  · intro x hx _
    simpa using hx
end

theorem own : ownKnob Tryz.prog.godebug = none := by kernel_rfl
theorem laidOut : laidOutB Tryz.prog = true := by kernel_rfl
theorem row9 : Tryz.prog.readableRec 9 = true ∧ 9 < Tryz.prog.types.size := ⟨by kernel_rfl, of_decide_eq_true (by kernel_rfl)⟩
theorem rowInts : Tryz.prog.readableRec 47 = true ∧ 47 < Tryz.prog.types.size := ⟨by kernel_rfl, of_decide_eq_true (by kernel_rfl)⟩
theorem uErr : Tryz.prog.underlying 136 = some (.interface #[("Error", 139)]) := by kernel_rfl
theorem star : "*" ++ "errors.errorString" = "*errors.errorString" := by decide
theorem rowPtr (u : TypeId) (h : Tryz.prog.typeName? 3 u = some "*errors.errorString") : u = 205 :=
  typeName_ptr_named (nm := "errors.errorString") (by rw [star]; kernel_rfl) (by kernel_rfl) (by decide) u (by rw [star]; exact h)
theorem gSyn : Tryz.prog.globalNamed "strconv.ErrSyntax" = some 2 := by kernel_rfl
section
variable {H : Type} {enc : TypeId × Value → H} {w : World} {base : Nat} {sp : Nat → Bool} {held : Bool}
end
/-- The variable ErrSyntax holds an error. -/
theorem errSyntax_ofL {W : World} {L : List (String × DataW Unit)} (hL : laidMet Tryz.prog (("strconv.ErrSyntax", Rows.laid_strconv_ErrSyntax) :: L) W) : ∃ ev, W.cell? ⟨2, 0, none⟩ = some ev ∧ (ev = .nilIface ∨ ∃ te pe, ev = .iface te pe) := by
  obtain ⟨a, s, hv, _⟩ := laid_sentinel hL gSyn (ti := 136) (tp := 205) (te := 207) (ts := 9) (f := { name := "s", type := 9, offset := 0, embedded := false, tag := "", pkgPath := "errors", byteOffset := 0 }) (ms := #[("Error", 139)]) (by kernel_rfl) uErr rowPtr (by kernel_rfl) (by kernel_rfl) rfl rfl (by kernel_rfl) (by kernel_rfl) (by kernel_rfl)
  exact ⟨_, World.var?_cell gSyn hv 0, .inr ⟨_, _, rfl⟩⟩
theorem maxLen_of {W : World} (h : W.ShapedOpen Tryz.prog) : ∃ m, W.cell? ⟨1, 0, none⟩ = some (.int .i64 m) :=
  cell_of_shapedOpen_int (t := 3) (zero := #[.int .i64 0]) h (of_decide_eq_true (by kernel_rfl)) (by kernel_rfl) rfl (by kernel_rfl) (by kernel_rfl) Tryz.underlying3
theorem env3_ofL {W : World} {L : List (String × DataW Unit)} (hL : laidMet Tryz.prog L W) (hm : ("internal/strconv.uint64pow10", (Rows.laid_internal_strconv_uint64pow10 : DataW Unit)) ∈ L) (hsh : W.ShapedOpen Tryz.prog) (he : ∃ ev, W.cell? ⟨2, 0, none⟩ = some ev ∧ (ev = .nilIface ∨ ∃ te pe, ev = .iface te pe)) : S3.Env W := by
  refine ⟨maxLen_of hsh, he, ?_, by obtain ⟨ev, h1, _⟩ := he; exact World.block_lt_of_cell? W _ h1⟩
  obtain ⟨g, t, cs, fuel, p, hg, hty, hvar, hd⟩ := Lib.laidMet.reads hL hm
  obtain rfl := Option.some.inj (S3.gTab.symm.trans hg)
  obtain rfl := Option.some.inj ((show (Tryz.prog.globals[6]?).map (·.type) = some 209 by kernel_rfl).symm.trans hty)
  have hcs := Lib.cells_of_tab (n := 20) (e := 184) (zs := Lib.pow10Tab) (k := .u64) (by kernel_rfl) (by kernel_rfl) (by kernel_rfl) (by kernel_rfl) hd
  unfold Lib.TabIs
  rw [hvar, ← hcs]
def featS : Nat → Str
  | 0 => [98, 101, 97, 109, 101, 114]
  | 1 => [108, 97, 98]
  | 2 => [112, 105, 97, 110, 111]
  | _ => []
theorem gFeatures : Tryz.prog.globalNamed "timetable/timetablemade.features" = some 0 := by kernel_rfl
theorem cells9f : Tryz.prog.cellsOf 9 = 1 := by kernel_rfl
/-- The table of features stands somewhere. -/
def Features (W : World) : Prop := ∃ PB po pc, FeatAt W PB po pc ∧ PB < W.heap.size
theorem features_ofL {W : World} {L : List (String × DataW Unit)} (hL : laidMet Tryz.prog L W) (hm : ("timetable/timetablemade.features", (Rows.laid_timetable_timetablemade_features : DataW Unit)) ∈ L) : Features W := by
  obtain ⟨g, t, cs, fuel, p, hg, hty, hvar, hd⟩ := Lib.laidMet.reads hL hm
  obtain rfl := Option.some.inj (gFeatures.symm.trans hg)
  obtain rfl := Option.some.inj ((show (Tryz.prog.globals[0]?).map (·.type) = some 39 by kernel_rfl).symm.trans hty)
  rcases open_slice Tryz.underlying39 hd with ⟨_, h⟩ | ⟨a, len, cap, mm, n, D, Pl, hcs, _, hl, hmx, hmm, hx, hel⟩
  · injection h with h _
    unfold Rows.laid_timetable_timetablemade_features at h
    cases h
  · injection hx with hx _
    unfold Rows.laid_timetable_timetablemade_features at hx
    injection hx with h1 h2
    have hlen : len = 3 := by have := congrArg List.length h1; simpa using this.symm
    subst hlen
    have hm3 : 3 ≤ mm := by rw [hmm]; split <;> omega
    have hD : ∀ i, i < 3 → D i = .lit (.string (featS i)) := by
      intro i hi
      have h := congrArg (·[i]?) h1
      rcases (show i = 0 ∨ i = 1 ∨ i = 2 by omega) with rfl | rfl | rfl
      all_goals
        simp at h
        exact h.symm
    have hc : ∀ i, i < 3 → W.cell? (a.add i) = some (.string (ba (featS i))) := by
      intro i hi
      obtain ⟨cs', e1, e2⟩ := hel i (by omega)
      rw [cells9f, Nat.mul_one] at e1
      obtain ⟨s, rfl, e3, _⟩ := DataW.trod_string Tryz.underlying9 e2
      have h0 := (World.cells?_some e1).2.2 0 (by omega)
      have hs : s = ba (featS i) := by
        injection e3 with e3 _
        rw [hD i hi] at e3
        injection e3 with e3
        injection e3 with e3
        exact ba_ofL e3.symm
      subst hs
      obtain ⟨b, off, spot⟩ := a
      simpa [Addr.add] using h0
    obtain ⟨b, off, spot⟩ := a
    have hspot : spot = none := by simpa [Addr.add] using World.cell?_spot (hc 0 (by omega))
    subst hspot
    have hc' : ∀ i, i < 3 → W.cell? ⟨b, off + i, none⟩ = some (.string (ba (featS i))) := fun i hi => by rw [← Go.WideShapes.add_plain]; exact hc i hi
    refine ⟨b, off, cap, ⟨?_, fun j t hj => ?_⟩, World.block_lt_of_cell? W _ (hc' 0 (by omega))⟩
    rotate_left
    · have hj3 : j < 3 := (List.getElem?_eq_some_iff.1 hj).1
      have e : t = featS j := by
        rcases (show j = 0 ∨ j = 1 ∨ j = 2 by omega) with rfl | rfl | rfl <;> exact (Option.some.inj hj).symm
      rw [e]
      exact hc' j hj3
    rw [World.var?_cell gFeatures hvar 0, ← Array.getElem?_toList, hcs]
    rfl
/-- A world in which the variables hold what their initialisers lay. -/
def cellsOfAgg : DataW Unit → Array Value
  | .agg l => (l.map fun | .lit (.int k z) => Value.int k z | _ => undef).toArray
  | _ => #[]
def acceptCells : Array Value := ((List.range 16).flatMap fun i => [Value.int .u8 (Lib.accLo i), Value.int .u8 (Lib.accHi i)]).toArray
def firstCells : Array Value := ((List.range 256).map fun b => Value.int .u8 (Lib.firstT b)).toArray
noncomputable def laidWorld (os : Os) : World :=
  let N := (World.settled Tryz.prog os).heap.size
  let w0 := World.holding Tryz.prog os ⟨#[.cells #[.string ⟨#[105, 110, 118, 97, 108, 105, 100, 32, 115, 121, 110, 116, 97, 120]⟩] 207, .cells #[.string ⟨#[118, 97, 108, 117, 101, 32, 111, 117, 116, 32, 111, 102, 32, 114, 97, 110, 103, 101]⟩] 207, .cells #[.string ⟨#[98, 101, 97, 109, 101, 114]⟩, .string ⟨#[108, 97, 98]⟩, .string ⟨#[112, 105, 97, 110, 111]⟩] 9], #[], []⟩
  let put (h : Array Obj) (g : Nat) (cs : Array Value) : Array Obj := h.modify g fun
    | .cells _ t frozen => .cells cs t frozen
    | o => o
  let h3 := put (put (put (put (put (put (put (put (w0.heap) 4 firstCells) 5 acceptCells) 2 #[.iface 205 (.pointer (some ⟨N, 0, none⟩))]) 3 #[.iface 205 (.pointer (some ⟨N + 1, 0, none⟩))]) 6 (cellsOfAgg Rows.laid_internal_strconv_uint64pow10)) 7 (cellsOfAgg Rows.laid_math_bits_deBruijn32tab)) 8 (cellsOfAgg Rows.laid_math_bits_deBruijn64tab)) 0 #[.slice (some ⟨N + 2, 0, none⟩) 3 3]
  { w0 with heap := h3 }
end Go.Proofs.YtpaejkhaiifgdaaGreatDoor.S11

set_option linter.unusedVariables false
namespace Go.Proofs.YtpaejkhaiifgdaaGreatDoor.S11
open Go Go.Proofs Go.RowKit Go.Lib Go.Proofs.YtpaejkhaiifgdaaGreatDoor

abbrev CurrD := Str × List Str
abbrev CurrA := Option Addr × Nat
def currVs (x : CurrD) (q : CurrA) : List Value := [.string (ba x.1), .slice q.1 x.2.length q.2]
def currV (x : CurrD) (q : CurrA) : Value := .agg #[.string (ba x.1), .slice q.1 x.2.length q.2]
/-- What a curriculum's slice leads to. -/
structure CurrIn (w : World) (P : Nat → Prop) (x : CurrD) (q : CurrA) : Prop where
  t : S3.StrsIn w P q.1 x.2
  t1 : x.2.length ≤ q.2
  t2 : q.2 ≤ 9223372036854775807
theorem CurrIn.kept {w w' : World} {P : Nat → Prop} {x : CurrD} {q : CurrA} (h : CurrIn w P x q) (hk : ∀ b, P b → w'.heap[b]? = w.heap[b]?) : CurrIn w' P x q := ⟨h.t.kept hk, h.t1, h.t2⟩
theorem CurrIn.mono {w : World} {P P' : Nat → Prop} {x : CurrD} {q : CurrA} (h : CurrIn w P x q) (hP : ∀ b, P b → P' b) : CurrIn w P' x q := ⟨h.t.mono hP, h.t1, h.t2⟩
theorem CurrIn.below {w w' : World} {B : Nat} {x : CurrD} {q : CurrA} (h : CurrIn w (fun b => b < B) x q) (hb : Below B w w') : CurrIn w' (fun b => b < B) x q := h.kept fun b hB => hb.block b hB
/-- The slice at A holds the curricula l, in blocks with P. -/
def CurrsIn (w : World) (P : Nat → Prop) (A : Option Addr) (l : List CurrD) : Prop :=
  l = [] ∨ ∃ b off, A = some ⟨b, off, none⟩ ∧ P b ∧ ∀ (j : Nat) (x : CurrD), l[j]? = some x → ∃ q, CurrIn w P x q ∧ ∀ (i : Nat) (v : Value), (currVs x q)[i]? = some v → w.cell? ⟨b, off + j * 2 + i, none⟩ = some v
theorem CurrsIn.kept {w w' : World} {P : Nat → Prop} {A : Option Addr} {l : List CurrD} (h : CurrsIn w P A l) (hk : ∀ b, P b → w'.heap[b]? = w.heap[b]?) : CurrsIn w' P A l := by
  rcases h with h | ⟨b, off, hA, hP, hc⟩
  · exact .inl h
  · refine .inr ⟨b, off, hA, hP, fun j r hj => ?_⟩
    obtain ⟨q, h1, h2⟩ := hc j r hj
    exact ⟨q, h1.kept hk, fun i v hv => (World.cell?_of_block (w := w) (hk b hP)).trans (h2 i v hv)⟩
theorem CurrsIn.mono {w : World} {P P' : Nat → Prop} {A : Option Addr} {l : List CurrD} (h : CurrsIn w P A l) (hP : ∀ b, P b → P' b) : CurrsIn w P' A l := by
  rcases h with h | ⟨b, off, hA, hb, hc⟩
  · exact .inl h
  · refine .inr ⟨b, off, hA, hP b hb, fun j r hj => ?_⟩
    obtain ⟨q, h1, h2⟩ := hc j r hj
    exact ⟨q, h1.mono hP, h2⟩
theorem CurrsIn.below {w w' : World} {B : Nat} {A : Option Addr} {l : List CurrD} (h : CurrsIn w (fun b => b < B) A l) (hb : Below B w w') : CurrsIn w' (fun b => b < B) A l := h.kept fun b hB => hb.block b hB
theorem CurrsIn.at_ {w : World} {P : Nat → Prop} {A : Option Addr} {l : List CurrD} (h : CurrsIn w P A l) {k : Nat} (hk : k < l.length) :
    ∃ b off q, A = some ⟨b, off, none⟩ ∧ P b ∧ CurrIn w P l[k] q ∧ w.cell? ⟨b, off + k * 2, none⟩ = some (.string (ba l[k].1)) ∧ w.cell? ⟨b, off + k * 2 + 1, none⟩ = some (.slice q.1 l[k].2.length q.2) := by
  rcases h with h | ⟨b, off, hA, hP, hc⟩
  · subst h; simp at hk
  · obtain ⟨q, h1, h2⟩ := hc k _ (List.getElem?_eq_getElem hk)
    exact ⟨b, off, q, hA, hP, h1, h2 0 _ rfl, h2 1 _ rfl⟩

/-- A block of two cells: a curriculum. -/
structure Box2 (w : World) (B : Nat) (v0 v1 : Value) : Prop where
  h : w.heap[B]? = some (.cells #[v0, v1] 41 (0, 0))
theorem Box2.new (w : World) (v0 v1 : Value) : Box2 (w.alloc (.cells #[v0, v1] 41)) w.heap.size v0 v1 := ⟨heap_alloc_new w _⟩
theorem Box2.lt {w : World} {B : Nat} {v0 v1 : Value} (h : Box2 w B v0 v1) : B < w.heap.size := (Array.getElem?_eq_some_iff.1 h.h).1
theorem Box2.kept {w w' : World} {B : Nat} {v0 v1 : Value} (h : Box2 w B v0 v1) (hk : w'.heap[B]? = w.heap[B]?) : Box2 w' B v0 v1 := ⟨hk.trans h.h⟩
theorem Box2.below {w w' : World} {B C : Nat} {v0 v1 : Value} (h : Box2 w B v0 v1) (hb : Below C w w') (hC : B < C) : Box2 w' B v0 v1 := h.kept (hb.block B hC)
theorem Box2.next {w w' : World} {B : Nat} {v0 v1 : Value} (h : Box2 w B v0 v1) (hb : Below w.heap.size w w') : Box2 w' B v0 v1 := h.below hb h.lt
theorem Box2.cells {w : World} {B : Nat} {v0 v1 : Value} (h : Box2 w B v0 v1) : w.cell? ⟨B, 0, none⟩ = some v0 ∧ w.cell? ⟨B, 1, none⟩ = some v1 := by
  refine ⟨?_, ?_⟩ <;> (rw [Lib.cell_of_heap h.h]; rfl)
theorem Box2.free {w : World} {B : Nat} {v0 v1 : Value} (h : Box2 w B v0 v1) (j : Nat) : w.frozen? ⟨B, j, none⟩ = false := by simp [World.frozen?, h.h]
/-- A block of one cell, of whatever type. -/
structure Box1 (w : World) (B : Nat) (T : TypeId) (v : Value) : Prop where
  h : w.heap[B]? = some (.cells #[v] T (0, 0))
theorem Box1.new (w : World) (T : TypeId) (v : Value) : Box1 (w.alloc (.cells #[v] T)) w.heap.size T v := ⟨heap_alloc_new w _⟩
theorem Box1.lt {w : World} {B : Nat} {T : TypeId} {v : Value} (h : Box1 w B T v) : B < w.heap.size := (Array.getElem?_eq_some_iff.1 h.h).1
theorem Box1.kept {w w' : World} {B : Nat} {T : TypeId} {v : Value} (h : Box1 w B T v) (hk : w'.heap[B]? = w.heap[B]?) : Box1 w' B T v := ⟨hk.trans h.h⟩
theorem Box1.below {w w' : World} {B C : Nat} {T : TypeId} {v : Value} (h : Box1 w B T v) (hb : Below C w w') (hC : B < C) : Box1 w' B T v := h.kept (hb.block B hC)
theorem Box1.next {w w' : World} {B : Nat} {T : TypeId} {v : Value} (h : Box1 w B T v) (hb : Below w.heap.size w w') : Box1 w' B T v := h.below hb h.lt
theorem Box1.cell {w : World} {B : Nat} {T : TypeId} {v : Value} (h : Box1 w B T v) : w.cell? ⟨B, 0, none⟩ = some v := by
  rw [Lib.cell_of_heap h.h]; rfl

theorem infoCurr : (Tryz.prog.info? 41).map (fun i => (i.zero, i.size, i.bytes)) = some (some (.agg #[.string ⟨#[]⟩, .slice none 0 0]), 2, 40) := by kernel_rfl
/-- Curricula that the call owns, with what their slices lead to. -/
def currVals (l : List (CurrD × CurrA)) : List Value := l.flatMap fun p => currVs p.1 p.2
theorem currVals_app (a b : List (CurrD × CurrA)) : currVals (a ++ b) = currVals a ++ currVals b := by simp [currVals]
theorem currVals_get : ∀ (l : List (CurrD × CurrA)) (j : Nat) (t : CurrD × CurrA), l[j]? = some t → ∀ (i : Nat) (v : Value), (currVs t.1 t.2)[i]? = some v → (currVals l)[j * 2 + i]? = some v
  | [], j, t, h, _, _, _ => by simp at h
  | a :: r, 0, t, h, i, v, hv => by
    simp at h
    subst h
    have hi : i < 2 := (List.getElem?_eq_some_iff.1 hv).1
    unfold currVals
    rw [List.flatMap_cons, List.getElem?_append_left (by show _ < 2; omega)]
    simpa using hv
  | a :: r, j + 1, t, h, i, v, hv => by
    have := currVals_get r j t (by simpa using h) i v hv
    unfold currVals at this ⊢
    rw [List.flatMap_cons, List.getElem?_append_right (by show 2 ≤ _; omega)]
    show (List.flatMap _ r)[(j + 1) * 2 + i - 2]? = _
    rw [show (j + 1) * 2 + i - 2 = j * 2 + i by omega]
    exact this
/-- The curricula l in a row of the call's own; what they lead to lies in blocks with P. -/
def CurrRow (w : World) (B : Nat) (P : Nat → Prop) (v : Value) (l : List CurrD) : Prop := ∃ L : List (CurrD × CurrA), L.map (·.1) = l ∧ w.ownsRow B 41 2 v l.length (currVals L) ∧ ∀ p ∈ L, CurrIn w P p.1 p.2
theorem CurrRow.currsIn {w : World} {B : Nat} {P : Nat → Prop} {v : Value} {l : List CurrD} (h : CurrRow w B P v l) : ∃ A c, v = .slice A l.length c ∧ l.length ≤ c ∧ c ≤ 9223372036854775807 ∧ CurrsIn w (fun b => P b ∨ (B ≤ b ∧ b < w.heap.size)) A l := by
  obtain ⟨L, rfl, h, hL⟩ := h
  have h' := h
  rcases h.2 with ⟨hv, h0⟩ | ⟨g, cap, cur, hv, hB, hg, h1, h2, _⟩
  · have hl : L.map (·.1) = [] := List.eq_nil_of_length_eq_zero h0
    rw [hl]
    exact ⟨none, 0, by rw [hv]; rfl, Nat.le_refl _, by omega, .inl rfl⟩
  · refine ⟨_, cap, hv, h1, by unfold maxLen at h2; omega, .inr ⟨g, 0, rfl, .inr ⟨hB, (Array.getElem?_eq_some_iff.1 hg).1⟩, fun j r hj => ?_⟩⟩
    rw [List.getElem?_map] at hj
    obtain ⟨p, hp, rfl⟩ := Option.map_eq_some_iff.1 hj
    refine ⟨p.2, (hL p (List.mem_of_getElem? hp)).mono (fun b hb => .inl hb), fun i v' hv' => ?_⟩
    have := World.ownsRow.cells h' (g := g) (by rw [hv]; rfl) (j * 2 + i) v' (currVals_get L j p hp i v' hv')
    rw [Addr.add_lit] at this
    rw [← Nat.add_assoc] at this
    exact this
end Go.Proofs.YtpaejkhaiifgdaaGreatDoor.S11

set_option linter.unusedVariables false
namespace Go.Proofs.YtpaejkhaiifgdaaGreatDoor.S3
open Go Go.Proofs Go.RowKit Go.Lib Go.Sort

theorem grow_below (w : World) (k : Nat) (os : Array Obj) : Below w.heap.size w (grow (w.drewN k) os) := by
  have h := below_drewN (Below.refl w.heap.size w) k
  refine ⟨h.os, h.tape, h.output, ?_, fun b hb => ?_⟩
  · show w.heap.size ≤ ((w.drewN k).heap ++ os).size
    have := h.size
    rw [Array.size_append]
    omega
  · show ((w.drewN k).heap ++ os)[b]? = _
    have := h.size
    rw [Array.getElem?_append_left (by omega)]
    exact h.block b hb
theorem repeat_zeros : ∀ k : Nat, Lib.repeatL [48] k = zerosS k := by
  intro k
  induction k with
  | zero => rfl
  | succ k ih => simp [Lib.repeatL, zerosS, List.replicate_succ] at ih ⊢; try exact ih
theorem lst_add (a b : ByteArray) : lst (a ++ b) = lst a ++ lst b := by simp [lst]

/-- What after hands back. -/
def StrOut (l : Str) (w : World) (e : Ending) (w' : World) : Prop := (∃ R : ByteArray, e = .returned (.string R) ∧ lst R = l) ∧ Below w.heap.size w w'
set_option maxHeartbeats 4000000 in
set_option maxRecDepth 100000 in
theorem after_any (P : ByteArray) (num wd n : Nat) (hP : P.size ≤ 16) (hn : num + n ≤ 1000000000000000000) (hw : wd ≤ 16) (w : World) (hE : Env w) :
    Calls Tryz.prog 84 #[.agg #[.string P, .int .i64 (num : Int), .int .i64 (wd : Int)], .int .i64 (n : Int)] w (StrOut (lst P ++ wrS (num + n) wd) w) := by
  have e1 : IntKind.i64.wrap ((num : Int) + (n : Int)) = ((num + n : Nat) : Int) := by rw [IntWalk.i64_in _ (by omega)]; omega
  have hlen := dec_len (num + n) 19 (by have : (10 : Nat) ^ 19 = 10000000000000000000 := by decide
                                        omega) (by omega)
  have cI := Tryz.strconv_Itoa ((num + n : Nat) : Int) (by omega) (by omega)
  obtain ⟨N, hN⟩ : ∃ N : ByteArray, (⟨(Lib.itoa ((num + n : Nat) : Int)).toArray⟩ : ByteArray) = N := ⟨_, rfl⟩
  have hNl : lst N = decDigits (num + n) := by
    rw [← hN]
    show Lib.itoa ((num + n : Nat) : Int) = _
    unfold Lib.itoa
    rw [if_neg (by omega), Int.toNat_natCast]
  rw [hN] at cI
  have hNs : N.size = (decDigits (num + n)).length := by rw [← hNl]; exact Lib.size_eq N
  have HN := hid hNl
  have HNS := hid hNs
  have hNs2 : N.size ≤ 19 := by omega
  have CI := hid cI
  have HE := hid hE
  obtain ⟨M, hM⟩ : ∃ M, num + n = M := ⟨_, rfl⟩
  rw [hM] at e1 CI HN HNS ⊢
  clear hN hNl hNs cI hE hlen
  go_enter Tryz.func84, Tryz.ntmps84
  have hba : Below w.heap.size w (w.alloc (.cells #[.string P, .int .i64 (num : Int), .int .i64 (wd : Int)] 127)) := (Below.refl _ w).alloc (Nat.le_refl _) _
  have hz0 : (w.alloc (.cells #[.string P, .int .i64 (num : Int), .int .i64 (wd : Int)] 127)).heap[w.heap.size]? = some (.cells #[.string P, .int .i64 (num : Int), .int .i64 (wd : Int)] 127 (0, 0)) := heap_alloc_new w _
  have hzs : w.heap.size < (w.alloc (.cells #[.string P, .int .i64 (num : Int), .int .i64 (wd : Int)] 127)).heap.size := by simp
  have HBA := hid hba
  have HZ0 := hid hz0
  clear hba hz0
  go_wp2_with fail
  generalize w.alloc (.cells #[.string P, .int .i64 (num : Int), .int .i64 (wd : Int)] 127) = w1 at HBA HZ0 hzs ⊢
  refine (CI.out _ ((HE.out.below HBA.out).tab)).mono ?_
  rintro e w2 ⟨rfl, k, os, hw2⟩
  have hb2 : Below w1.heap.size w1 w2 := by rw [hw2]; exact grow_below _ _ _
  have hz2 := (hb2.block _ hzs).trans HZ0.out
  have HB2 := hid (HBA.out.trans (hb2.mono HBA.out.size))
  have c0 : w2.cell? ⟨w.heap.size, 0, none⟩ = some (.string P) := by rw [Lib.cell_of_heap hz2]; rfl
  have c1 : w2.cell? ⟨w.heap.size, 1, none⟩ = some (.int .i64 (num : Int)) := by rw [Lib.cell_of_heap hz2]; rfl
  have c2 : w2.cell? ⟨w.heap.size, 2, none⟩ = some (.int .i64 (wd : Int)) := by rw [Lib.cell_of_heap hz2]; rfl
  have hzs2 : w.heap.size < w2.heap.size := Nat.lt_of_lt_of_le hzs hb2.size
  have HZ2 := hid hz2
  obtain ⟨z, hz, hz16⟩ : ∃ z : Nat, z = wd - N.size ∧ z ≤ 16 := ⟨_, rfl, by omega⟩
  have hmax : max 0 ((wd : Int) - (N.size : Int)) = (z : Int) := by omega
  have HZ := hid hz
  clear hw2 hb2 hz2 hz HBA HZ0 CI HE hzs
  obtain ⟨Z, hZ⟩ : ∃ Z : ByteArray, (⟨(Lib.repeatL (⟨#[48]⟩ : ByteArray).data.toList z).toArray⟩ : ByteArray) = Z := ⟨_, rfl⟩
  have hZl : lst Z = zerosS z := by rw [← hZ]; exact repeat_zeros z
  have hZs : Z.size = z := by rw [show Z.size = (lst Z).length from Lib.size_eq Z, hZl]; simp [zerosS]
  have cR := fun w => Tryz.strings_Repeat ⟨#[48]⟩ z w (by omega) (by rw [show (⟨#[48]⟩ : ByteArray).size = 1 from rfl]; omega)
  rw [hZ] at cR
  have add1 : ∀ w, (Op.stringOp .add P Z).run Tryz.prog w = .ok (.string (P ++ Z)) w := fun w => run_string_add_sum (w := w) _ _ (by omega)
  have add2 : ∀ w, (Op.stringOp .add (P ++ Z) N).run Tryz.prog w = .ok (.string (P ++ Z ++ N)) w := fun w => run_string_add_sum (w := w) _ _ (by rw [ByteArray.size_append]; omega)
  have hfin : Hid (lst (P ++ Z ++ N) = lst P ++ wrS M wd) := hid (by
    rw [lst_add, lst_add, hZl, HN.out, List.append_assoc]
    unfold wrS
    rw [← HNS.out, HZ.out])
  clear hZ hZl hZs c1
  go_wp2_with fail
  try rw [hmax]
  clear hmax c2 hz16 hNs2
  go_region_held3 (fun w' => w'.cell? ⟨w.heap.size, 0, none⟩ = some (.string P)) (go_keep) (first | (go_at_call 96; refine (cR _).mono ?_; rintro e w' ⟨rfl, hb'⟩; have c0' := (hb'.cell (p := ⟨w.heap.size, 0, none⟩) hzs2).trans c0; have HB' := hid hb'))
  all_goals
    go_wp2
    go_ret
    exact ⟨⟨_, rfl, hfin.out⟩, HB2.out.trans (((Below.refl w.heap.size w2).drew).trans (HB'.out.mono HB2.out.size))⟩
end Go.Proofs.YtpaejkhaiifgdaaGreatDoor.S3

set_option linter.unusedVariables false
namespace Go.Proofs.YtpaejkhaiifgdaaGreatDoor.S3
open Go Go.Proofs Go.RowKit Go.Lib

/-- How many codes a range has, 0 if it is none. -/
def rangeN (a b : Str) : Nat := if hasL a = true ∧ hasL b = true ∧ numL a ≤ numL b ∧ preS a ++ wrS (numL b) (lastS a).length = b then numL b - numL a + 1 else 0
theorem len16 {s : ByteArray} (h : s.size ≤ 16) : (lst s).length ≤ 16 := by rw [← Lib.size_eq]; exact h
theorem last_len (l : Str) (h : l.length ≤ 16) : (lastS l).length ≤ 16 ∧ (preS l).length ≤ 16 := by
  have := congrArg List.length (pre_split l)
  rw [List.length_append] at this
  omega
theorem numL_small (l : Str) (h : l.length ≤ 16) : numL l < 10000000000000000 := numN_small _ (last_dgs l) (last_len l h).1
theorem str_eq {a b : ByteArray} : (lst a = lst b ∧ (a.toList == b.toList) = true ∧ (!a.toList == b.toList) = false) ∨ (lst a ≠ lst b ∧ (a.toList == b.toList) = false ∧ (!a.toList == b.toList) = true) := by
  rw [Lib.toList_data, Lib.toList_data]
  by_cases h : lst a = lst b
  · have h' : (a.data.toList == b.data.toList) = true := by simpa using h
    exact .inl ⟨h, h', by rw [h']; rfl⟩
  · have h' : (a.data.toList == b.data.toList) = false := by simpa using h
    exact .inr ⟨h, h', by rw [h']; rfl⟩

set_option maxHeartbeats 4000000 in
set_option maxRecDepth 100000 in
theorem rangeLength_any (a b : ByteArray) (ha : a.size ≤ 16) (hb : b.size ≤ 16) (w : World) (hE : Env w) :
    Calls Tryz.prog 102 #[.string a, .string b] w fun e w' => e = .returned (.int .i64 (rangeN (lst a) (lst b) : Nat)) ∧ Below w.heap.size w w' := by
  obtain ⟨R, hR⟩ : ∃ R, rangeN (lst a) (lst b) = R := ⟨_, rfl⟩
  rw [hR]
  have na := numL_small (lst a) (len16 ha)
  have nb := numL_small (lst b) (len16 hb)
  have la := last_len (lst a) (len16 ha)
  have cA := divide_any a ha w hE
  have HR := hid hR
  have HE := hid hE
  have CA := hid cA
  clear hR hE cA
  go_enter Tryz.func102, Tryz.ntmps102
  go_wp2_with fail
  refine CA.out.mono ?_
  rintro e w1 ⟨⟨PA, rfl, hPA⟩, hb1⟩
  unfold divV
  have hPAs : PA.size ≤ 16 := by rw [Lib.size_eq, show PA.data.toList = _ from hPA]; exact la.2
  have HE1 := HE.out.below hb1
  obtain ⟨nA, hnA⟩ : ∃ n, numL (lst a) = n := ⟨_, rfl⟩
  obtain ⟨nB, hnB⟩ : ∃ n, numL (lst b) = n := ⟨_, rfl⟩
  obtain ⟨wA, hwA⟩ : ∃ n, (lastS (lst a)).length = n := ⟨_, rfl⟩
  have hwA16 : wA ≤ 16 := by rw [← hwA]; exact la.1
  rw [hnA] at na
  rw [hnB] at nb
  have hdef : Hid (R = if hasL (lst a) = true ∧ hasL (lst b) = true ∧ nA ≤ nB ∧ lst PA ++ wrS nB wA = lst b then nB - nA + 1 else 0) := hid (by rw [← HR.out]; unfold rangeN; rw [hnA, hnB, hwA, hPA])
  rw [hnA, hwA]
  have HNB := hid hnB
  have hz1 : (w1.alloc (.cells #[.string PA, .int .i64 (nA : Int), .int .i64 (wA : Int)] 127)).heap[w1.heap.size]? = some (.cells #[.string PA, .int .i64 (nA : Int), .int .i64 (wA : Int)] 127 (0, 0)) := heap_alloc_new w1 _
  have hba : Below w1.heap.size w1 (w1.alloc (.cells #[.string PA, .int .i64 (nA : Int), .int .i64 (wA : Int)] 127)) := (Below.refl _ w1).alloc (Nat.le_refl _) _
  have hsa : w1.heap.size < (w1.alloc (.cells #[.string PA, .int .i64 (nA : Int), .int .i64 (wA : Int)] 127)).heap.size := by simp
  have HZ1 := hid hz1
  have HB1 := hid (hb1.trans (hba.mono hb1.size))
  have HEa := hid (HE1.below hba)
  clear hz1 hba hb1 HE1 hnA hnB hwA hPA CA HR HE la
  go_wp2_with fail
  generalize w1.alloc (.cells #[.string PA, .int .i64 (nA : Int), .int .i64 (wA : Int)] 127) = w2 at HZ1 HB1 HEa hsa ⊢
  refine (divide_any b hb _ HEa.out).mono ?_
  rintro e w3 ⟨⟨PB, rfl, _⟩, hb3⟩
  unfold divV
  rw [HNB.out]
  obtain ⟨wB, hwB⟩ : ∃ n, (lastS (lst b)).length = n := ⟨_, rfl⟩
  rw [hwB]
  clear hwB
  have hz3 := (hb3.block _ hsa).trans HZ1.out
  have HB3 := hid (HB1.out.trans (hb3.mono HB1.out.size))
  have HE3 := HEa.out.below hb3
  have hs3 : w1.heap.size < w3.heap.size := Nat.lt_of_lt_of_le hsa hb3.size
  have hza : (w3.alloc (.cells #[.string PB, .int .i64 (nB : Int), .int .i64 (wB : Int)] 127)).heap[w1.heap.size]? = some (.cells #[.string PA, .int .i64 (nA : Int), .int .i64 (wA : Int)] 127 (0, 0)) := (Below.heap_alloc w3 _ _ hs3).trans hz3
  have hzb : (w3.alloc (.cells #[.string PB, .int .i64 (nB : Int), .int .i64 (wB : Int)] 127)).heap[w3.heap.size]? = some (.cells #[.string PB, .int .i64 (nB : Int), .int .i64 (wB : Int)] 127 (0, 0)) := heap_alloc_new w3 _
  have hba : Below w3.heap.size w3 (w3.alloc (.cells #[.string PB, .int .i64 (nB : Int), .int .i64 (wB : Int)] 127)) := (Below.refl _ w3).alloc (Nat.le_refl _) _
  have HB4 := hid (HB3.out.trans (hba.mono HB3.out.size))
  have HE4 := hid (HE3.below hba)
  clear hz3 hb3 HE3 hba HB1 HB3 HEa HNB HZ1
  obtain ⟨oa, hoa⟩ : ∃ o, hasL (lst a) = o := ⟨_, rfl⟩
  obtain ⟨ob, hob⟩ : ∃ o, hasL (lst b) = o := ⟨_, rfl⟩
  rw [hoa, hob] at hdef
  rw [hoa, hob]
  clear hoa hob
  have a1 : (w3.alloc (.cells #[.string PB, .int .i64 (nB : Int), .int .i64 (wB : Int)] 127)).cell? ⟨w1.heap.size, 1, none⟩ = some (.int .i64 (nA : Int)) := by rw [Lib.cell_of_heap hza]; rfl
  have b1 : (w3.alloc (.cells #[.string PB, .int .i64 (nB : Int), .int .i64 (wB : Int)] 127)).cell? ⟨w3.heap.size, 1, none⟩ = some (.int .i64 (nB : Int)) := by rw [Lib.cell_of_heap hzb]; rfl
  have a0 : (w3.alloc (.cells #[.string PB, .int .i64 (nB : Int), .int .i64 (wB : Int)] 127)).cell? ⟨w1.heap.size, 0, none⟩ = some (.string PA) := by rw [Lib.cell_of_heap hza]; rfl
  have a2 : (w3.alloc (.cells #[.string PB, .int .i64 (nB : Int), .int .i64 (wB : Int)] 127)).cell? ⟨w1.heap.size, 2, none⟩ = some (.int .i64 (wA : Int)) := by rw [Lib.cell_of_heap hza]; rfl
  clear hza hzb
  cases oa with
  | false =>
    have hR0 : Hid (R = 0) := hid (by rw [hdef.out, if_neg (by simp)])
    have eN : IntKind.i64.wrap ((nB : Int) - (nA : Int)) = (nB : Int) - (nA : Int) := IntWalk.i64_in _ (by omega)
    go_wp2
    go_ret
    rw [hR0.out]
    exact ⟨rfl, HB4.out⟩
  | true =>
    cases ob with
    | false =>
      have hR0 : Hid (R = 0) := hid (by rw [hdef.out, if_neg (by simp)])
      have eN : IntKind.i64.wrap ((nB : Int) - (nA : Int)) = (nB : Int) - (nA : Int) := IntWalk.i64_in _ (by omega)
      go_wp2
      go_ret
      rw [hR0.out]
      exact ⟨rfl, HB4.out⟩
    | true =>
      by_cases hle : nA ≤ nB
      · obtain ⟨d, hd⟩ : ∃ d, nB = nA + d := ⟨nB - nA, by omega⟩
        have eN : IntKind.i64.wrap ((nB : Int) - (nA : Int)) = (d : Int) := by rw [IntWalk.i64_in _ (by omega)]; omega
        have eN2 : (nB : Int) - (nA : Int) = (d : Int) := by omega
        have hdn : nA + d ≤ 1000000000000000000 := by omega
        have hd0 : ¬ (d : Int) < 0 := by omega
        have hd1 : decide ((d : Int) < 0) = false := decide_eq_false hd0
        have eD : IntKind.i64.wrap ((d : Int) + 1) = (d : Int) + 1 := IntWalk.i64_in _ (by omega)
        have HD := hid hd
        clear hle hd
        go_wp2_with fail
        refine (after_any PA nA wA d hPAs hdn hwA16 _ HE4.out).mono ?_
        rintro e w5 ⟨⟨X, rfl, hX⟩, hb5⟩
        have HX := hid hX
        have HB5 := hid (HB4.out.trans (hb5.mono HB4.out.size))
        rcases @str_eq X b with ⟨h1, h2, h3⟩ | ⟨h1, h2, h3⟩
        · have hR1 : Hid (R = d + 1) := hid (by rw [hdef.out, if_pos ⟨by trivial, by trivial, by have := HD.out; omega, by rw [HD.out, ← HX.out]; exact h1⟩]; have := HD.out; omega)
          clear h1 hX hb5 hdef
          go_wp2
          go_ret
          rw [hR1.out]
          exact ⟨by go_num, HB5.out⟩
        · have hR0 : Hid (R = 0) := hid (by rw [hdef.out, if_neg (fun h => h1 (by rw [HX.out, ← HD.out]; exact h.2.2.2))])
          clear h1 hX hb5 hdef
          go_wp2
          go_ret
          rw [hR0.out]
          exact ⟨rfl, HB5.out⟩
      · have hR0 : Hid (R = 0) := hid (by rw [hdef.out, if_neg (fun h => hle h.2.2.1)])
        have eN : IntKind.i64.wrap ((nB : Int) - (nA : Int)) = (nB : Int) - (nA : Int) := IntWalk.i64_in _ (by omega)
        have hz : (nB : Int) - (nA : Int) < 0 := by omega
        have hz' : decide ((nB : Int) - (nA : Int) < 0) = true := decide_eq_true hz
        have hz2 : (nB : Int) < (nA : Int) := by omega
        clear hle
        go_wp2
        go_ret
        rw [hR0.out]
        exact ⟨rfl, HB4.out⟩
end Go.Proofs.YtpaejkhaiifgdaaGreatDoor.S3

