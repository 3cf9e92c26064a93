/-
  The program's List: its contract (listM). Conditions: the library's variables hold what its text lays; the string has fewer than 2^32 - 15 bytes. The program's .. Conditions: as stated.
-/
import Derived.Test.YtnpfmoalgphkcaaGreatDoorMM01
import Derived.Test.YtnpfmoalgphkcaaGreatDoorMM02
import Derived.Test.YtnpfmoalgphkcaaGreatDoorMM03
import Derived.Test.YtnpfmoalgphkcaaGreatDoorMM04
import Derived.Test.YtnpfmoalgphkcaaGreatDoorMM05
import Derived.Test.YtnpfmoalgphkcaaGreatDoorMM06
import Derived.Test.YtnpfmoalgphkcaaGreatDoorMM07
import Derived.Test.YtnpfmoalgphkcaaGreatDoorMM08
import Derived.Test.YtnpfmoalgphkcaaGreatDoorMM09
import Derived.Test.YtnpfmoalgphkcaaGreatDoorMM10
import Derived.RangeFuncNested
import Derived.RangeFuncBound
import Derived.RangeFuncCalls
import Derived.RangeFuncLeaves
import Derived.Shelf.Abstract
import Derived.Shelf.RegionOpen
import Derived.OwnWalkIn
import Derived.Lib.Bytealg
import Derived.Lib.ItoaNum
import Derived.Lib.Atoi
import Derived.Lib.SlTrimSet
import Derived.Test.YtnpfmoalgphkcaaGreatDoorProg
import Derived.WalkKit
import Derived.WalkSpells
import Derived.WalkLawsBesides
import Derived.Lib.Hide
import Derived.Deep.QuietTactic
import Derived.BigQuiet
import Derived.Laws.Rows
import Derived.OwnWalk
import Derived.Lib.BufferWrite
import Derived.Lib.UnsafeStr
import Derived.Laws.IdiomStrings
import Derived.Laws.BytesArg
import Derived.Laws.BytesString
import Derived.Shelf.Strings.Builder1
import Derived.Shelf.Strings.Builder2
import Derived.Shelf.Strings.OnBuilder
import Derived.Shelf.Strings.BuilderF
import Derived.Shelf.Strings.BuilderK
import Derived.Shelf.Strings.Builder2Cap
import Derived.Shelf.Strconv.Atoi
import Derived.Shelf.Strconv.Itoa0
import Derived.Shelf.Strconv.Itoa1
import Derived.Shelf.LaysM
import Derived.Shelf.Strconv.Itoa2
import Derived.Shelf.Strconv.Itoa3
import Derived.Shelf.Strconv.AtoiErrFast
import Derived.Shelf.Strconv.ParseIntEmpty
import Derived.Shelf.Strconv.AtoiFail
import Derived.Shelf.Strconv.Clone
import Derived.Shelf.Strconv.SyntaxError
import Derived.Shelf.LaysC
import Derived.Shelf.Strconv.ToError
import Derived.Shelf.Strconv.AtoiErr
import Derived.Shelf.Strings.Search1
import Derived.Shelf.Strings.Search2
import Derived.Shelf.Strings.Search3
import Derived.Shelf.Strings.Cut
import Derived.Shelf.Strings.Shaped
import Derived.Shelf.Strings.Prefix
import Derived.Shelf.Unicode.DecodeSlow
import Derived.Shelf.Strings.BuilderCap
import Derived.Shelf.Strings.SlTrimAscii
import Derived.Lib.AtoiErrMem
import Derived.Handy
import Derived.Laws.ResultCell
import Derived.RegionTactic
import Derived.Lib.Repeat
import Derived.Deep.RegionHeld3
import Derived.Laws.OwnMore
import Derived.Lib.SlicesS
import Derived.Lib.IndexLaws
import Derived.TacticsInMore
import Derived.LoopNIn
import Derived.LoopIn
import Derived.Deep.DeepCutAuto
import Derived.Lib.Join
import Derived.Laws.Concat
import Derived.Laws.BitsAllLaws
import Derived.Laws.BitsLemmas
import Derived.Deep.MidRow
import Derived.Deep.RegionLaw
import Derived.Test.YtnpfmoalgphkcaaGreatDoorCards
import Derived.Test.YtnpfmoalgphkcaaGreatDoorTie
import Derived.Lib.SmallJoins
import Derived.SizedLaws
import Derived.Stop.LaidErr
import Derived.Deep.DeepWitnessRowRef
import Derived.ProofKit
import Derived.OpenShut
import Derived.Deep.DeepHandedRow
import Derived.Deep.DeepLaidRun
import Derived.Lib.LaidU8
import Derived.Shelf.Vars
import Derived.Maps.OwnSet
import Derived.Maps.Range
import Derived.Sort.EncStr
set_option linter.unusedVariables false
namespace Go.Proofs.YtnpfmoalgphkcaaGreatDoor.S3
open Go Go.Proofs Go.RowKit Go.Lib
attribute [local go_sem] Oper.semAt_some
def listGo : List Str → List Str → List Str × Int
  | [], l => (l, 0)
  | p :: ps, l => if (partM p (64 - (l.length : Int))).2 ≠ 0 then ([], (partM p (64 - (l.length : Int))).2) else listGo ps (l ++ (partM p (64 - (l.length : Int))).1)
def listM (s : Str) : List Str × Int :=
  if s = [] then ([], 0) else if (listGo (splitL s) []).2 ≠ 0 then ([], (listGo (splitL s) []).2)
  else if checkM (listGo (splitL s) []).1 ≠ 0 then ([], checkM (listGo (splitL s) []).1) else ((listGo (splitL s) []).1, 0)
theorem splitL_mem : ∀ (l : Str) (p : Str), p ∈ splitL l → p.length ≤ l.length
  | [], p, h => by simp [splitL] at h; simp [h]
  | c :: s, p, h => by
    have ih := splitL_mem s
    simp only [splitL] at h
    split at h
    · rcases List.mem_cons.1 h with rfl | h
      · simp
      · have := ih p h; simp; omega
    · have hne := splitL_ne s
      obtain ⟨a, t, hat⟩ : ∃ a t, splitL s = a :: t := by cases hs : splitL s with | nil => exact absurd hs hne | cons a t => exact ⟨a, t, rfl⟩
      rw [hat] at h
      simp only [List.headD_cons, List.tail_cons] at h
      rcases List.mem_cons.1 h with rfl | h
      · have := ih a (by rw [hat]; exact .head _); simp; omega
      · have := ih p (by rw [hat]; exact .tail _ h); simp; omega
set_option maxHeartbeats 1000000 in
theorem splitSeq_any (s : ByteArray) (w : World) : Calls Tryz.prog 90 #[.string s, .string ⟨#[59]⟩] w fun e w' =>
    e = .returned (.func (.func 125) #[] #[.pointer (some ⟨w.heap.size + 1, 0, none⟩), .pointer (some ⟨w.heap.size, 0, none⟩), .pointer (some ⟨w.heap.size + 2, 0, none⟩)]) ∧
    w' = ((w.alloc (.cells #[.string s] 9)).alloc (.cells #[.string ⟨#[59]⟩] 9)).alloc (.cells #[.int .i64 0] 3) := by
  have c56 : Calls Tryz.prog 107 #[.string s, .string ⟨#[59]⟩, .int .i64 0] w fun e w' =>
      e = .returned (.func (.func 125) #[] #[.pointer (some ⟨w.heap.size + 1, 0, none⟩), .pointer (some ⟨w.heap.size, 0, none⟩), .pointer (some ⟨w.heap.size + 2, 0, none⟩)]) ∧
      w' = ((w.alloc (.cells #[.string s] 9)).alloc (.cells #[.string ⟨#[59]⟩] 9)).alloc (.cells #[.int .i64 0] 3) := by
    go_enter Tryz.func107, Tryz.ntmps107
    go_wp2
    go_ret
    exact ⟨rfl, rfl⟩
  go_enter Tryz.func90, Tryz.ntmps90
  go_wp2_with fail
  refine c56.mono ?_
  rintro e w' ⟨rfl, rfl⟩
  go_wp2
  go_ret
  exact ⟨rfl, rfl⟩
structure LInv (N : Nat) (w : World) (st : St) (W : World) : Prop where
  below : Below N w W
  size : N + 6 ≤ W.heap.size
  r1 : Boxed W N 58 (.slice none 0 0)
  r2 : Boxed W (N + 1) 28 (.int .i64 0)
  v1 : Boxed W (N + 3) 9 (.string st.2)
  v2 : Boxed W (N + 4) 9 (.string ⟨#[59]⟩)
  v3 : Boxed W (N + 5) 3 (.int .i64 0)
  acc : ∃ v, Boxed W (N + 2) 58 v ∧ StrRow W (N + 6) v (listGo st.1 []).1
  ok : (listGo st.1 []).2 = 0
  len : (listGo st.1 []).1.length ≤ 64
structure LErr (N : Nat) (w : World) (s : Str) (W : World) : Prop where
  below : Below N w W
  out : ∃ e : Int, (listGo (splitL s) []).2 = e ∧ e ≠ 0 ∧ Boxed W N 58 (.slice none 0 0) ∧ Boxed W (N + 1) 28 (.int .i64 e)
theorem LInv.kept {N : Nat} {w : World} {st : St} {W W' : World} {row : Option Nat} (h : LInv N w st W) (hN : N ≤ w.heap.size) (hg : W.grownBy W' row) (hr : ∀ r, row = some r → N + 6 ≤ r) (hrow : ∀ v, Boxed W (N + 2) 58 v → StrRow W (N + 6) v (listGo st.1 []).1 → v.ownBlock = none ∨ v.ownBlock ≠ row) : LInv N w st W' := by
  have hne : ∀ B, B < N + 6 → some B ≠ row := fun B hB e => by have := hr B e.symm; omega
  obtain ⟨v, hv, hw⟩ := h.acc
  have hs := h.below.size
  exact ⟨h.below.grown hg (by omega) (fun k e => by have := hr k e; omega), Nat.le_trans h.size hg.size, h.r1.kept hg (hne _ (by omega)), h.r2.kept hg (hne _ (by omega)), h.v1.kept hg (hne _ (by omega)), h.v2.kept hg (hne _ (by omega)), h.v3.kept hg (hne _ (by omega)),
    ⟨v, hv.kept hg (hne _ (by omega)), World.ownsRow.kept hw hg (hrow v hv hw)⟩, h.ok, h.len⟩
theorem LInv.own {N B : Nat} {w : World} (hN : N ≤ w.heap.size) (hB : N + 6 ≤ B) : OwnFrom B (LInv N w) := by
  intro st W W' row h hg hr
  refine h.kept hN hg (fun r e => by have := (hr r e).1; omega) (fun v hv hw => ?_)
  rcases hw.2 with ⟨rfl, _⟩ | ⟨g, cap, cur, rfl, _, hgb, _⟩
  · exact .inl rfl
  · refine .inr fun e' => ?_
    obtain ⟨_, o, ho, hc⟩ := hr g (by simpa [Value.ownBlock] using e'.symm)
    rw [hgb] at ho; cases ho; cases hc
theorem LErr.own {N B : Nat} {w : World} {s : Str} (hN : N ≤ w.heap.size) (hB : N + 6 ≤ B) : OwnFrom B (fun (_ : Unit) W => LErr N w s W) := by
  rintro _ W W' row ⟨hb, e, he, h0, h1, h2⟩ hg hr
  have hne : ∀ B, B < N + 6 → some B ≠ row := fun B' hB' e => by have := (hr B' e.symm).1; omega
  have hs := hb.size
  exact ⟨hb.grown hg (by omega) (fun k e => by have := (hr k e).1; omega), e, he, h0, h1.kept hg (hne _ (by omega)), h2.kept hg (hne _ (by omega))⟩
theorem LInv.turn {N : Nat} {w : World} {st : St} {W : World} (h : LInv N w st W) (hN : N ≤ w.heap.size) (r : ByteArray) : LInv N w (st.1, r) (W.setCell ⟨N + 3, 0, none⟩ (.string r)) := by
  have hg := grownBy_setCell' W (N + 3) (.string r)
  have hne : ∀ B, B ≠ N + 3 → some B ≠ some (N + 3) := fun B hB e => hB (by injection e)
  obtain ⟨v, hv, hw⟩ := h.acc
  have hs := h.below.size
  refine ⟨h.below.grown hg (by omega) (fun k e => by injection e; omega), Nat.le_trans h.size hg.size, h.r1.kept hg (hne _ (by omega)), h.r2.kept hg (hne _ (by omega)), h.v1.set _, h.v2.kept hg (hne _ (by omega)), h.v3.kept hg (hne _ (by omega)),
    ⟨v, hv.kept hg (hne _ (by omega)), World.ownsRow.kept hw hg ?_⟩, h.ok, h.len⟩
  refine .inr fun e => ?_
  have := World.ownsRow.lt hw _ e
  omega
theorem LInv.vars {N : Nat} {w : World} {st : St} {W : World} (h : LInv N w st W) : SplitVars (N + 3) st.2 W := ⟨h.v1.cell, h.v1.frozen, h.v2.cell, h.v3.cell⟩
theorem results_cc {fn : Func} {p u : Tmp} {A B : TypeId} (h : fn.results = #[.cell p A, .cell u B]) (tmps : Array Value) (P : Program) (w : World) (a b : Addr) (va vb : Value)
    (ha : tmps.getD p undef = .pointer (some a)) (hb : tmps.getD u undef = .pointer (some b))
    (hla : (loadVar A a).run P w = .ok va w) (hlb : (loadVar B b).run P w = .ok vb w) : (results fn tmps).run P w = .ok (.tuple #[va, vb]) w := by
  rw [Array.getD_eq_getD_getElem?] at ha hb
  simp only [results, h]
  simp [Result.andThen, ha, hb, hla, hlb, asAddr]
theorem loadErr {w : World} {k : Nat} {x : Value} (h0 : w.cell? ⟨k, 0, none⟩ = some x) : (loadVar 28 ⟨k, 0, none⟩).run Tryz.prog w = .ok x w := by
  simp [loadVar, go_sem, h0]
attribute [local go_sem] Oper.semAt_some
theorem Boxed.under {W W2 : World} {B : Nat} {t : TypeId} {v : Value} (h : Boxed W B t v) (hb : Below W.heap.size W W2) : Boxed W2 B t v := (hb.block _ h.lt).trans h
theorem keeps_below {W W2 : World} (hb : Below W.heap.size W W2) : KeepsOthers W W2 := ⟨hb.size, fun k o hk _ => (hb.block k (Array.getElem?_eq_some_iff.1 hk).1).trans hk⟩
theorem LInv.step {N : Nat} {w : World} {pre : List Str} {r : ByteArray} {W W2 w3 : World} {v v' : Value} {L L' : List Str} {x : Str} (h : LInv N w (pre, r) W) (hN : N ≤ w.heap.size) (hb : Below W.heap.size W W2) (hv : Boxed W (N + 2) 58 v)
    (hrow2 : StrRow W2 (N + 6) v L) (hg : W2.grownBy w3 v.ownBlock) (hown : StrRow w3 (N + 6) v' L') (hx : listGo (pre ++ [x]) [] = (L', 0)) (hl : L'.length ≤ 64) (B0 : Nat) :
    LInv N w (pre ++ [x], r) (w3.setCell ⟨N + 2, 0, none⟩ v') ∧ KeepsFrom B0 W (w3.setCell ⟨N + 2, 0, none⟩ v') := by
  have hs := h.below.size
  have hlt := hrow2.lt
  have hlt' := hown.lt
  have hne : ∀ B, B < N + 6 → some B ≠ v.ownBlock := fun B hB e => by have := hlt B e.symm; omega
  have hg2 := grownBy_setCell' w3 (N + 2) v'
  have hne2 : ∀ B, B ≠ N + 2 → some B ≠ some (N + 2) := fun B hB e => hB (by injection e)
  have up : ∀ {B : Nat} {t : TypeId} {u : Value}, Boxed W B t u → B < N + 6 → B ≠ N + 2 → Boxed (w3.setCell ⟨N + 2, 0, none⟩ v') B t u := fun hu h6 h2 => ((Boxed.under hu hb).kept hg (hne _ h6)).kept hg2 (hne2 _ h2)
  have hv3 : Boxed w3 (N + 2) 58 v := (Boxed.under hv hb).kept hg (hne _ (by omega))
  have hsz := h.size
  have hb3 : Below N w (w3.setCell ⟨N + 2, 0, none⟩ v') := ((h.below.trans (hb.mono (by omega))).grown hg (by have := hb.size; omega) (fun k hk => by have := hlt k hk; omega)).grown hg2 (by have := hb.size; have := hg.size; omega) (fun k e => by injection e; omega)
  refine ⟨⟨hb3, ?_, up h.r1 (by omega) (by omega), up h.r2 (by omega) (by omega), up h.v1 (by omega) (by omega), up h.v2 (by omega) (by omega), up h.v3 (by omega) (by omega), ⟨v', hv3.set v', ?_⟩, by rw [hx], by rw [hx]; exact hl⟩, ?_⟩
  · have := hb.size; have := hg.size; have := hg2.size; omega
  · rw [hx]
    exact World.ownsRow.kept hown hg2 (.inr fun e => by have := hlt' _ e; omega)
  · refine (((keeps_below hb).trans (KeepsOthers.of_grownBy hg fun j o ej hj => ?_)).trans (KeepsOthers.setCell _ _ _)).from _
    obtain ⟨c, hc⟩ := row_kind9 hrow2 j ej
    rw [hc] at hj
    cases hj
    rfl
theorem box_at {W : World} {n : Nat} (h : W.heap.size = n) (t : TypeId) (v : Value) : Boxed (W.alloc (.cells #[v] t)) n t v := by subst h; exact Boxed.new W t v
theorem splitL_one : ∀ (l : Str), 59 ∉ l → splitL l = [l]
  | [], _ => rfl
  | c :: s, h => by
    have ih := splitL_one s (fun hm => h (.tail _ hm))
    unfold splitL
    rw [if_neg (fun e => h (by rw [e]; exact .head _)), ih]
    rfl
def semi : List Str → Str
  | [] => []
  | [p] => p
  | p :: q :: r => p ++ 59 :: semi (q :: r)
theorem split_cons (rest : Str) : ∀ (p : Str), 59 ∉ p → splitL (p ++ 59 :: rest) = p :: splitL rest
  | [], _ => by
    show splitL (59 :: rest) = _
    conv => lhs; unfold splitL
    rw [if_pos rfl]
  | c :: p, h => by
    have ih := split_cons rest p (fun hm => h (.tail _ hm))
    show splitL (c :: (p ++ 59 :: rest)) = _
    conv => lhs; unfold splitL
    rw [if_neg (fun e => h (by rw [e]; exact .head _)), ih]
    rfl
theorem split_semi : ∀ (l : List Str), l ≠ [] → (∀ p ∈ l, 59 ∉ p) → splitL (semi l) = l
  | [], h, _ => absurd rfl h
  | [p], _, h => splitL_one p (h p (.head _))
  | p :: q :: r, _, h => by
    have ih := split_semi (q :: r) (by simp) (fun x hx => h x (.tail _ hx))
    show splitL (p ++ 59 :: semi (q :: r)) = _
    rw [split_cons _ _ (h p (.head _)), ih]
theorem semi_join : ∀ l : List Str, Lib.join l [59] = semi l
  | [] => rfl
  | [p] => by rw [Lib.join_one]; rfl
  | p :: q :: r => by
    have ih := semi_join (q :: r)
    rw [Lib.join_cons] at ih ⊢
    show p ++ Lib.joinTail [59] (q :: r) = p ++ 59 :: semi (q :: r)
    rw [← ih]
    simp [Lib.joinTail]
theorem ba_app (a b : Str) : ba a ++ ba b = ba (a ++ b) := by
  apply ByteArray.ext
  simp [ba]
theorem ba_size (a : Str) : (ba a).size = a.length := by
  show a.toArray.size = _
  simp
theorem StrsIn.rest {w : World} {P : Nat → Prop} {A : Option Addr} {l : List Str} (h : StrsIn w P A l) (n c : Nat) (hlc : l.length ≤ c) : StrsIn w P (if c = n then A else A.map (·.add n)) (l.drop n) := by
  by_cases hn : n < l.length
  · rw [if_neg (by omega)]
    rcases h with h | ⟨b, off, rfl, hP, hc⟩
    · subst h; simp at hn
    · refine .inr ⟨b, off + n, by rw [Option.map_some, Addr.add_lit], hP, fun j s hj => ?_⟩
      rw [List.getElem?_drop] at hj
      rw [show off + n + j = off + (n + j) by omega]
      exact hc _ _ hj
  · exact .inl (List.drop_of_length_le (by omega))
end Go.Proofs.YtnpfmoalgphkcaaGreatDoor.S3
namespace Go.Proofs.YtnpfmoalgphkcaaGreatDoor
open Go Go.Proofs Go.RowKit Go.Lib
def fitT (d s b m n : Int) (t : TimeD) : Int := fitsM d s b m n t.1 t.2.1 t.2.2.1 t.2.2.2
def unfitB (d s b m n : Int) (t : TimeD) : Bool := decide (fitT d s b m n t ≠ 0)
def codesR (l : List RoomD) : List Str := l.map (·.1)
def timeS (d s b m n : Int) (t : TimeD) : Str := (textT d s b m n t.1 t.2.1 t.2.2.1 t.2.2.2).1
def timesS (d s b m n : Int) (l : List TimeD) : Str := S3.semi (l.map (timeS d s b m n))
def numD (D : Nat) (s : Str) : Nat := if s ≠ [] ∧ s.length ≤ D ∧ s.all S3.dg = true ∧ s.head? ≠ some 48 then S3.numN s else 0
structure Env7 (w : World) : Prop where
  e : Env w
  s : S3.Env w
  d : Days w
theorem Env7.below {w w' : World} (h : Env7 w) {B : Nat} (hb : Below B w w') (hB : w.heap.size ≤ B) : Env7 w' := by
  have hsz := h.e.size
  have hb' : Below w.heap.size w w' := hb.mono hB
  exact ⟨h.e.below hb' hsz, h.s.below hb', h.d.below hb' hsz⟩
theorem timeS_len (d s b m n : Int) (t : TimeD) : (timeS d s b m n t).length ≤ 300 := by
  unfold timeS textT
  split
  · exact time_len
  · simp
theorem semi_len300 : ∀ (l : List Str), (∀ p ∈ l, p.length ≤ 300) → (S3.semi l).length ≤ 301 * l.length
  | [], _ => by simp [S3.semi]
  | [p], h => by have := h p (.head _); simp [S3.semi]; omega
  | p :: q :: r, h => by
    have ih := semi_len300 (q :: r) (fun x hx => h x (.tail _ hx))
    have := h p (.head _)
    show (p ++ 59 :: S3.semi (q :: r)).length ≤ _
    simp at ih ⊢
    omega
theorem joinRow (A : Option Addr) (ps : List Str) (c B : Nat) (w : World) (h : S3.StrRow w B (.slice A ps.length c) ps) (hp : ∀ p ∈ ps, p.length ≤ 300) (hn : ps.length ≤ 1000) :
    Calls Tryz.prog 78 #[.slice A ps.length c, .string ⟨#[59]⟩] w fun e w' => e = .returned (.string (ba (S3.semi ps))) ∧ Below w.heap.size w w' := by
  obtain ⟨A5, c5, eA, hl5, hc5, hI5⟩ := h.strsIn
  obtain ⟨rfl, rfl⟩ : A = A5 ∧ c = c5 := by injection eA with e1 _ e3; exact ⟨e1, e3⟩
  rcases hI5 with h | ⟨b, off, rfl, hb, hcell⟩
  · subst h
    exact (Tryz.strings_Join_none A c ⟨#[59]⟩ w).mono fun e w' ⟨h1, h2⟩ => ⟨h1, h2 ▸ Below.refl _ _⟩
  · have e : (ps.map ba).map (·.data.toList) = ps := by simp [Function.comp_def, ba]
    have hj := Tryz.strings_Join b off c (ps.map ba) ⟨#[59]⟩ w (fun j x hx => by
      rw [List.getElem?_map] at hx
      obtain ⟨y, hy, rfl⟩ := Option.map_eq_some_iff.1 hx
      exact hcell j y hy) hb.2 (by simp; omega) (by simpa using hl5) (by
      rw [e, show (⟨#[59]⟩ : ByteArray).data.toList = [59] from rfl, S3.semi_join]
      have := semi_len300 ps hp
      omega)
    rw [e, show (⟨#[59]⟩ : ByteArray).data.toList = [59] from rfl, S3.semi_join, List.length_map] at hj
    exact hj
set_option maxHeartbeats 8000000 in
set_option maxRecDepth 100000 in
theorem writeTimes_any (d s b m n : Int) (A : Option Addr) (l : List TimeD) (c B : Nat) (w : World) (hB : B ≤ w.heap.size) (h : TimesIn w (fun k => k < B) A l) (hl : l.length ≤ 24) (hE : Env7 w) :
    Calls Tryz.prog 56 #[.slice A l.length c, .agg #[.int .i64 d, .int .i64 s, .int .i64 b, .int .i64 m], .int .i64 n] w (Says (.string (ba (timesS d s b m n l))) w) := by
  obtain ⟨i9, hi9, hz9, hsi9, hby9⟩ := info_parts S3.infoStr
  unfold Says timesS
  have hk := K1.first w d s b m 24
  have HK := hid hk
  have HH := hid h
  have HE := hid (fun (w' : World) (hb : Below w.heap.size w w') => hE.below hb (Nat.le_refl _))
  clear hk h hE
  go_enter Tryz.func56, Tryz.ntmps56
  go_wp2
  go_loopw [7, 9, 10, 11, 14] (fun v _ _ _ iv wr => ∃ (i : Nat) (ps : List Str), iv = .int .i64 (i : Int) ∧ i ≤ l.length ∧ S3.StrRow wr (w.heap.size + 1) v ps ∧ Hid (ps = (l.take i).map (timeS d s b m n)) ∧ Hid (K1 w d s b m wr)) (fun _ _ _ _ iv _ => l.length - (RowKit.intOf iv).toNat)
  case atStart => exact ⟨0, [], rfl, Nat.zero_le _, World.ownsRow_nil _ _ _ _, hid rfl, hid HK.out⟩
  case round =>
    obtain ⟨i, ps, rfl, hi, hrow, hps, hK⟩ := hrel
    obtain ⟨Ar, cr, rfl⟩ := S3.row_slice hrow
    have HRow := hid hrow
    clear hrow
    by_cases hlt : i < l.length
    · have hltz : (i : Int) < (l.length : Int) := by omega
      have hHH := (HH.out.mono (fun k hk => Nat.lt_of_lt_of_le hk hB)).below hK.out.b
      have hle := hHH.le hlt
      obtain ⟨tb, tf, rfl, htb, t0, t1, t2, t3⟩ := hHH.at_ hlt
      have hst : (l.take (i + 1)).map (timeS d s b m n) = ps ++ [timeS d s b m n l[i]] := by rw [hps.out, List.take_succ_eq_append_getElem hlt, List.map_append]; rfl
      have hpl : ps.length = i := by rw [hps.out]; simp; omega
      obtain ⟨⟨k0, y0, u0, l0⟩, ht⟩ : ∃ t, l[i] = t := ⟨_, rfl⟩
      rw [ht] at t0 t1 t2 t3 hle hst
      dsimp only at t0 t1 t2 t3 hle
      obtain ⟨g0, g1, g2, g3, _⟩ := hK.out.x
      have hb1 := (Below.refl wr.heap.size wr).alloc (Nat.le_refl _) (.cells #[.int .i64 k0, .int .i64 y0, .int .i64 u0, .int .i64 l0] 26)
      have hK1 := hK.out.next hb1
      obtain ⟨g0', g1', g2', g3', _⟩ := id hK1.x
      have cF := hid (fun w' hb => tformat_any d s b m n k0 y0 u0 l0 hle w' (HE.out w' hb).e (HE.out w' hb).d)
      have hts : (textT d s b m n k0 y0 u0 l0).1 = timeS d s b m n (k0, y0, u0, l0) := rfl
      obtain ⟨⟨tx, te⟩, hR⟩ : ∃ R, textT d s b m n k0 y0 u0 l0 = R := ⟨_, rfl⟩
      have cF' := cF.out
      unfold FormOut at cF'
      rw [hR] at cF' hts
      dsimp only at cF' hts
      rw [← hts] at hst
      have CF := hid cF'
      have HST := hid hst
      have HB1 := hid hb1
      have HK1 := hid hK1
      have hrow1 := row_under HRow.out hb1
      have HRow1 := hid hrow1
      have HPL := hid hpl
      clear cF cF' hst hb1 hK1 hR hts ht hHH hle hpl hrow1
      go_wp2_with fail
      generalize wr.alloc (.cells #[.int .i64 k0, .int .i64 y0, .int .i64 u0, .int .i64 l0] 26) = w1 at HB1 HK1 HRow1 g0' g1' g2' g3' ⊢
      refine (CF.out _ HK1.out.b).mono ?_
      rintro e w2 ⟨rfl, hb2⟩
      have HK2 := hid (HK1.out.next hb2)
      have HRow2 := hid (row_under HRow1.out hb2)
      clear hb2 HRow1 HRow HK1 HB1 CF g0 g1 g2 g3 g0' g1' g2' g3' t0 t1 t2 t3
      have HC3 : Hid (ps.length + 1 ≤ maxLen) := by unfold maxLen; exact hid (by have := HPL.out; omega)
      have HC4 : Hid ((ps.length + 1) * 16 ≤ 140737488355328) := hid (by have := HPL.out; omega)
      have HC5 : Hid (∀ o : Obj, w.heap.size + 1 ≤ (w2.alloc o).heap.size) := hid (fun o => by have := HK2.out.x.lt; simp; omega)
      go_wp2_with (at_builtin; refine wpList_append_own _ rfl _ _ 58 rfl (w.heap.size + 1) 9 i9 (.string ⟨#[]⟩) 1 16 Tryz.underlying58 hi9 hz9 hsi9 hby9 rfl (by decide) _ ps.length (S3.strVals ps) rfl (World.ownsRow.alloc HRow2.out _) ⟨w2.heap.size, 0, none⟩ 1 1 [.string (ba tx)] rfl rfl (one_new _ _ _) (S3.one_str _) HC3.out HC4.out (HC5.out _) ?_)
      intro v' w4 hown' hgrow _
      have hg' := grownBy_of_alloc hgrow
      have hb24 : Below w.heap.size w2 w4 := (Below.refl _ w2).grown hg' HK2.out.b.size (fun k hk => by have := (World.ownsRow.lt HRow2.out k hk).1; omega)
      have hx4 : Box4 w4 w.heap.size d s b m := by
        have kc : ∀ o : Nat, w4.cell? ⟨w.heap.size, o, none⟩ = w2.cell? ⟨w.heap.size, o, none⟩ := fun o => World.cell?_of_block (w := w2) (hg'.block _ HK2.out.x.lt (fun e => by have := (World.ownsRow.lt HRow2.out _ e.symm).1; have e2 : w.heap.size + 1 ≤ w.heap.size := this; omega))
        have hx := HK2.out.x
        exact ⟨(kc 0).trans hx.c0, (kc 1).trans hx.c1, (kc 2).trans hx.c2, (kc 3).trans hx.c3, Nat.lt_of_lt_of_le hx.lt hg'.size⟩
      have HK4 : Hid (K1 w d s b m w4) := hid ⟨hx4, HK2.out.b.trans hb24⟩
      have HOwn := hid hown'
      clear hx4 hb24 hg' hgrow hown'
      go_wp2_with fail
      go_roundw
      case rel =>
        refine ⟨i + 1, ps ++ [tx], by go_num, by omega, ?_, hid HST.out.symm, HK4⟩
        unfold S3.StrRow
        rw [S3.strVals_app, List.length_append]
        exact HOwn.out
      case measure => simp [RowKit.intOf]; omega
    · have hltz : ¬ (i : Int) < (l.length : Int) := by omega
      have hpe : Hid (ps = l.map (timeS d s b m n)) := hid (by rw [hps.out, List.take_of_length_le (by omega)])
      have cJ := joinRow Ar ps cr (w.heap.size + 1) wr HRow.out (fun p hp => by rw [hpe.out] at hp; obtain ⟨t, _, rfl⟩ := List.mem_map.1 hp; exact timeS_len _ _ _ _ _ t) (by rw [hpe.out, List.length_map]; omega)
      have CJ := hid cJ
      clear cJ
      go_wp2_with fail
      refine CJ.out.mono ?_
      rintro e w' ⟨rfl, hb2⟩
      have HB2 := hid (hK.out.next hb2).b
      clear hb2
      go_wp2
      go_ret
      exact ⟨by rw [hpe.out]; rfl, HB2.out⟩
structure REnv7 (w : World) : Prop where
  wd : Words w
  d : RDays w
  z : 9 < w.heap.size
theorem REnv7.below {w w' : World} (h : REnv7 w) {B : Nat} (hb : Below B w w') (hB : w.heap.size ≤ B) : REnv7 w' := by
  have hz := h.z
  have hb' : Below w.heap.size w w' := hb.mono hB
  exact ⟨h.wd.below hb' hz, h.d.below hb' hz, Nat.lt_of_lt_of_le hz hb.size⟩
end Go.Proofs.YtnpfmoalgphkcaaGreatDoor
namespace Go.Proofs.YtnpfmoalgphkcaaGreatDoor
open Go Go.Proofs Go.ChangeShapes Go.WideShapes Go.ChangeAt Go.RowKit
section
variable {H : Type} {enc : TypeId × Value → H} {P : Program}
theorem trodAll_stays (hl : laidOutB P = true) {W W' : World} (hb : Below W.heap.size W W') {sp : Nat → Bool} : ∀ {ts : List TypeId} {vs : List Value} {ds : List (DataW H)} {ps : List MemPlace},
    (∀ t ∈ ts, P.readableRec t = true ∧ t < P.types.size) → DataW.TrodAll enc P W 0 (fun _ => true) true ts vs ds ps → (∀ x ∈ ps, x.block < W.heap.size) → (∀ x ∈ ps, sp x.block = true) → DataW.TrodAll enc P W' 0 sp true ts vs ds ps
  | [], vs, ds, ps, _, h, _, _ => by
    obtain ⟨rfl, rfl, rfl⟩ := trodAll_nil h
    exact trodAll_mk0
  | t :: ts, vs, ds, ps, ht, h, hlt, hsp => by
    obtain ⟨v, vs', d, ds', p, q, rfl, rfl, rfl, h0, hr⟩ := trodAll_cons h
    have hp : ∀ x ∈ p, x.block < W.heap.size := fun x hx => hlt x (List.mem_append.2 (.inl hx))
    refine trodAll_cons_mk (WideElems.Trod_stays hl (ht t (by simp)).1 (ht t (by simp)).2 h0 (fun x hx => hb.same (hp x hx)) (fun x hx => hsp x (List.mem_append.2 (.inl hx)))) ?_
    exact trodAll_stays hl hb (fun t' h' => ht t' (by simp [h'])) hr (fun x hx => hlt x (List.mem_append.2 (.inr hx))) (fun x hx => hsp x (List.mem_append.2 (.inr hx)))
theorem law_post {f : Func} {s : ChangeSpec} {apart fresh again : Bool} {tb : TypeId} {W W' : World} {args : Array Value} {ds gs : List (DataW H)} {before : List MemPlace}
    (hl : laidOutB P = true) (hts : ∀ t ∈ f.params.toList, P.readableRec t = true ∧ t < P.types.size) (hres : f.resultTypes = #[tb]) (htb : P.underlying tb = some .bool)
    (hvars : s.vars = []) (hfn : s.fn H (ds ++ gs) = { results := [.lit (.bool true)], args := ds, vars := [] })
    (hW : DataW.Whole enc P f.params.toList s.vars apart W args.toList ds gs before) (hb : Below W.heap.size W W') :
    s.post enc P f apart fresh false again W args (.bool true) W' := by
  have hlt : ∀ p ∈ before, p.block < W.heap.size := fun p hp => hW.lt p hp
  have hW0 := hW
  obtain ⟨p, q, hA, hV, hpq, hz, hn⟩ := hW0
  rw [hvars] at hV
  obtain ⟨rfl, rfl⟩ := trodVars_none hV
  rw [List.append_nil] at hpq
  subst hpq
  have hr : ∀ (b : Nat) (sp : Nat → Bool) (hd : Bool), DataW.TrodAll enc P W' b sp hd f.resultTypes.toList ((Value.bool true).resultList f.resultTypes.size) (s.fn H (ds ++ [])).results [] := fun b sp hd => by
    rw [hres, hfn]
    exact trodAll_cons_mk (shut_bool htb true) trodAll_mk0
  have ha : ∀ sp : Nat → Bool, (∀ x ∈ before, sp x.block = true) → DataW.TrodAll enc P W' 0 sp true f.params.toList args.toList (s.fn H (ds ++ [])).args before := fun sp hsp => by
    rw [hfn]
    exact trodAll_stays hl hb hts hA hlt hsp
  have hold : ∀ x ∈ before, (fun b => decide (b < W.heap.size)) x.block = true := fun x hx => by simpa using hlt x hx
  have hvs : ∀ sp : Nat → Bool, DataW.TrodVars enc P W' sp s.vars (s.fn H (ds ++ [])).vars [] := fun sp => by
    rw [hvars, hfn]
    exact rfl
  refine ⟨ds, [], before, [], before, [], hW, hr _ _ _, ha _ hold, hvs _, World.keptBut_mono (fun x hx => ⟨hx, .inr (.inl hx)⟩) (hb.frame (· ∈ before)), fun _ => ?_⟩
  refine ⟨?_, _, _, ([] ++ before) ++ [], ⟨[] ++ before, [], trodAll_append (ha _ (fun _ _ => rfl)) (hr _ _ _), hvs _, rfl, ?_, ?_⟩, ?_⟩
  · intro j t r hj hr'
    rw [hres] at hj hr'
    match j, hj, hr' with
    | 0, hj, hr' =>
      simp at hj
      subst hj
      obtain rfl : (Value.bool true) = r := by simpa [Value.resultList] using hr'
      exact okWide_bool_mk htb true
    | j + 1, hj, _ => simp at hj
  · intro b off hp
    have hin : MemPlace.cell b off ∈ before := by simpa using hp
    rw [hb.frozen (hlt _ hin)]
    exact hz b off hin
  · intro h
    simpa using hn h
  · intro x hx _
    simpa using hx
end
theorem own : ownKnob Tryz.prog.godebug = none := by kernel_rfl
theorem laidOut : laidOutB Tryz.prog = true := by kernel_rfl
theorem rowInts : Tryz.prog.readableRec 49 = true ∧ 49 < Tryz.prog.types.size := ⟨by kernel_rfl, of_decide_eq_true (by kernel_rfl)⟩
theorem uErr : Tryz.prog.underlying 132 = some (.interface #[("Error", 135)]) := by kernel_rfl
theorem star : "*" ++ "errors.errorString" = "*errors.errorString" := by decide
theorem rowPtr (u : TypeId) (h : Tryz.prog.typeName? 3 u = some "*errors.errorString") : u = 203 :=
  typeName_ptr_named (nm := "errors.errorString") (by rw [star]; kernel_rfl) (by kernel_rfl) (by decide) u (by rw [star]; exact h)
theorem gSyn : Tryz.prog.globalNamed "strconv.ErrSyntax" = some 9 := by kernel_rfl
theorem gWords : Tryz.prog.globalNamed "timetable/timetableref05.words" = some 3 := by kernel_rfl
theorem gNames : Tryz.prog.globalNamed "timetable/weekset.names" = some 4 := by kernel_rfl
theorem gDays : Tryz.prog.globalNamed "timetable/timegrid.days" = some 2 := by kernel_rfl
theorem gRDays : Tryz.prog.globalNamed "timetable/timetableref06.days" = some 1 := by kernel_rfl
section
variable {H : Type} {enc : TypeId × Value → H} {w : World} {base : Nat} {sp : Nat → Bool} {held : Bool}
theorem take1 {cs : List Value} {k : Nat} {v : Value} (h : (cs.drop k).take 1 = [v]) : cs[k]? = some v := by
  have := congrArg (·[0]?) h
  simpa [List.getElem?_take, List.getElem?_drop] using this
theorem word_cell {fuel : Nat} {cs : List Value} {p : List MemPlace} (h : DataW.trod enc Tryz.prog w base sp held fuel 136 cs = some (Rows.laid_timetable_timetableref05_words, p)) (k : Nat) (hk : k < 5) : cs[k]? = some (.string ⟨(wordS k).toArray⟩) := by
  obtain ⟨f', d, q, hd, ht⟩ := Lib.array_elem Tryz.underlying136 h k hk
  rw [show Tryz.prog.cellsOf 9 = 1 by kernel_rfl, Nat.mul_one] at ht
  obtain ⟨s, hcs, hx, _⟩ := DataW.trod_string Tryz.underlying9 ht
  rw [take1 hcs]
  injection hx with hx _
  subst hx
  have e : lst s = wordS k := by
    rcases (show k = 0 ∨ k = 1 ∨ k = 2 ∨ k = 3 ∨ k = 4 by omega) with rfl | rfl | rfl | rfl | rfl
    all_goals
      injection hd with hd
      injection hd with hd
      injection hd with hd
      exact hd.symm
  rw [ba_of e]
  rfl
theorem name_cells {fuel : Nat} {cs : List Value} {d : List (DataW H)} {p : List MemPlace} {T : Str} {m : Int} {a b : Bool} (h : DataW.trod enc Tryz.prog w base sp held fuel 162 cs = some (.agg d, p)) (hd : d = [.lit (.string T), .lit (.int .i64 m), .lit (.bool a), .lit (.bool b)]) :
    cs = [.string ⟨T.toArray⟩, .int .i64 m, .bool a, .bool b] := by
  obtain ⟨y0, y1, y2, y3, n, hx, hl, h0, h1, h2, h3⟩ := Joins.trod_struct4 Tryz.underlying162 h
  rw [show Tryz.prog.cellsOf 162 = 4 by kernel_rfl] at hl
  dsimp only at h0 h1 h2 h3
  rw [show Tryz.prog.cellsOf 9 = 1 by kernel_rfl] at h0
  rw [show Tryz.prog.cellsOf 3 = 1 by kernel_rfl] at h1
  rw [show Tryz.prog.cellsOf 4 = 1 by kernel_rfl] at h2 h3
  obtain ⟨s, hc0, rfl, _⟩ := DataW.trod_string Tryz.underlying9 h0
  obtain ⟨z, hc1, rfl, _⟩ := DataW.trod_int Tryz.underlying3 h1
  obtain ⟨x, hc2, rfl⟩ := DataW.trod_bool Tryz.underlying4 h2
  obtain ⟨y, hc3, rfl⟩ := DataW.trod_bool Tryz.underlying4 h3
  rw [hd] at hx
  simp only [Prod.mk.injEq, DataW.agg.injEq, List.cons.injEq, DataW.lit.injEq, Lit.string.injEq, Lit.int.injEq, Lit.bool.injEq, true_and, and_true] at hx
  obtain ⟨⟨hT, rfl, rfl, rfl⟩, _⟩ := hx
  have e : (⟨T.toArray⟩ : ByteArray) = s := by rw [hT]
  rw [e]
  match cs, hl with
  | [c0, c1, c2, c3], _ =>
    have := take1 hc0
    have := take1 hc1
    have := take1 hc2
    have := take1 hc3
    simp_all
theorem name_cell {fuel : Nat} {cs : List Value} {p : List MemPlace} (h : DataW.trod enc Tryz.prog w base sp held fuel 163 cs = some (Rows.laid_timetable_weekset_names, p)) (k : Nat) (hk : k < 5) : (cs.drop (k * 4)).take 4 = (nv k).toList := by
  obtain ⟨f', d, q, hd, ht⟩ := Lib.array_elem Tryz.underlying163 h k hk
  rw [show Tryz.prog.cellsOf 162 = 4 by kernel_rfl] at ht
  rcases (show k = 0 ∨ k = 1 ∨ k = 2 ∨ k = 3 ∨ k = 4 by omega) with rfl | rfl | rfl | rfl | rfl
  all_goals
    injection hd with hd
    rw [← hd] at ht
    exact name_cells ht rfl
theorem day_cell {fuel : Nat} {cs : List Value} {p : List MemPlace} (h : DataW.trod enc Tryz.prog w base sp held fuel 112 cs = some (Rows.laid_timetable_timegrid_days, p)) (k : Nat) (hk : k < 7) : cs[k]? = some (.string (ba (dayS k))) := by
  obtain ⟨f', d, q, hd, ht⟩ := Lib.array_elem Tryz.underlying112 h k hk
  rw [show Tryz.prog.cellsOf 9 = 1 by kernel_rfl, Nat.mul_one] at ht
  obtain ⟨s, hcs, hx, _⟩ := DataW.trod_string Tryz.underlying9 ht
  rw [take1 hcs]
  injection hx with hx _
  subst hx
  have e : lst s = dayS k := by
    rcases (show k = 0 ∨ k = 1 ∨ k = 2 ∨ k = 3 ∨ k = 4 ∨ k = 5 ∨ k = 6 by omega) with rfl | rfl | rfl | rfl | rfl | rfl | rfl
    all_goals
      injection hd with hd
      injection hd with hd
      injection hd with hd
      exact hd.symm
  rw [ba_of e]
theorem rday_cell {fuel : Nat} {cs : List Value} {p : List MemPlace} (h : DataW.trod enc Tryz.prog w base sp held fuel 112 cs = some (Rows.laid_timetable_timetableref06_days, p)) (k : Nat) (hk : k < 7) : cs[k]? = some (.string (ba (dayS k))) := by
  obtain ⟨f', d, q, hd, ht⟩ := Lib.array_elem Tryz.underlying112 h k hk
  rw [show Tryz.prog.cellsOf 9 = 1 by kernel_rfl, Nat.mul_one] at ht
  obtain ⟨s, hcs, hx, _⟩ := DataW.trod_string Tryz.underlying9 ht
  rw [take1 hcs]
  injection hx with hx _
  subst hx
  have e : lst s = dayS k := by
    rcases (show k = 0 ∨ k = 1 ∨ k = 2 ∨ k = 3 ∨ k = 4 ∨ k = 5 ∨ k = 6 by omega) with rfl | rfl | rfl | rfl | rfl | rfl | rfl
    all_goals
      injection hd with hd
      injection hd with hd
      injection hd with hd
      exact hd.symm
  rw [ba_of e]
end
theorem nameCells_at : ∀ (j : Nat) (v : Value), nameCells[j]? = some v → j / 4 < 5 ∧ (nv (j / 4)).toList[j % 4]? = some v := by
  intro j v h
  have hj : j < 20 := (List.getElem?_eq_some_iff.1 h).1
  rcases (show j = 0 ∨ j = 1 ∨ j = 2 ∨ j = 3 ∨ j = 4 ∨ j = 5 ∨ j = 6 ∨ j = 7 ∨ j = 8 ∨ j = 9 ∨ j = 10 ∨ j = 11 ∨ j = 12 ∨ j = 13 ∨ j = 14 ∨ j = 15 ∨ j = 16 ∨ j = 17 ∨ j = 18 ∨ j = 19 by omega) with rfl | rfl | rfl | rfl | rfl | rfl | rfl | rfl | rfl | rfl | rfl | rfl | rfl | rfl | rfl | rfl | rfl | rfl | rfl | rfl
  all_goals exact ⟨by decide, h⟩
theorem errSyntax_ofL {W : World} {L : List (String × DataW Unit)} (hL : laidMet Tryz.prog (("strconv.ErrSyntax", Rows.laid_strconv_ErrSyntax) :: L) W) : ∃ ev, W.cell? ⟨9, 0, none⟩ = some ev ∧ (ev = .nilIface ∨ ∃ te pe, ev = .iface te pe) := by
  obtain ⟨a, s, hv, _⟩ := laid_sentinel hL gSyn (ti := 132) (tp := 203) (te := 205) (ts := 9) (f := { name := "s", type := 9, offset := 0, embedded := false, tag := "", pkgPath := "errors", byteOffset := 0 }) (ms := #[("Error", 135)]) (by kernel_rfl) uErr rowPtr (by kernel_rfl) (by kernel_rfl) rfl rfl (by kernel_rfl) (by kernel_rfl) (by kernel_rfl)
  exact ⟨_, World.var?_cell gSyn hv 0, .inr ⟨_, _, rfl⟩⟩
theorem names_ofL {W : World} {L : List (String × DataW Unit)} (hL : laidMet Tryz.prog L W) (hm : ("timetable/weekset.names", (Rows.laid_timetable_weekset_names : DataW Unit)) ∈ L) : Names W := by
  obtain ⟨g, t, cs, fuel, p, hg, hty, hvar, hd⟩ := Lib.laidMet.reads hL hm
  obtain rfl := Option.some.inj (gNames.symm.trans hg)
  obtain rfl := Option.some.inj ((show (Tryz.prog.globals[4]?).map (·.type) = some 163 by kernel_rfl).symm.trans hty)
  intro j v hj
  rw [World.var?_cell gNames hvar j, ← Array.getElem?_toList]
  obtain ⟨h5, hv⟩ := nameCells_at j v hj
  rw [← name_cell hd (j / 4) h5, List.getElem?_take, if_pos (by omega), List.getElem?_drop, show j / 4 * 4 + j % 4 = j by omega] at hv
  exact hv
theorem words_ofL {W : World} {L : List (String × DataW Unit)} (hL : laidMet Tryz.prog L W) (hm : ("timetable/timetableref05.words", (Rows.laid_timetable_timetableref05_words : DataW Unit)) ∈ L) : Words W := by
  obtain ⟨g, t, cs, fuel, p, hg, hty, hvar, hd⟩ := Lib.laidMet.reads hL hm
  obtain rfl := Option.some.inj (gWords.symm.trans hg)
  obtain rfl := Option.some.inj ((show (Tryz.prog.globals[3]?).map (·.type) = some 136 by kernel_rfl).symm.trans hty)
  intro k hk
  rw [World.var?_cell gWords hvar k, ← Array.getElem?_toList]
  exact word_cell hd k hk
theorem days_ofL {W : World} {L : List (String × DataW Unit)} (hL : laidMet Tryz.prog L W) (hm : ("timetable/timegrid.days", (Rows.laid_timetable_timegrid_days : DataW Unit)) ∈ L) : Days W := by
  obtain ⟨g, t, cs, fuel, p, hg, hty, hvar, hd⟩ := Lib.laidMet.reads hL hm
  obtain rfl := Option.some.inj (gDays.symm.trans hg)
  obtain rfl := Option.some.inj ((show (Tryz.prog.globals[2]?).map (·.type) = some 112 by kernel_rfl).symm.trans hty)
  intro j v hj
  have hj7 : j < 7 := (List.getElem?_eq_some_iff.1 hj).1
  rw [World.var?_cell gDays hvar j, ← Array.getElem?_toList, day_cell hd j hj7, ← hj]
  rcases (show j = 0 ∨ j = 1 ∨ j = 2 ∨ j = 3 ∨ j = 4 ∨ j = 5 ∨ j = 6 by omega) with rfl | rfl | rfl | rfl | rfl | rfl | rfl <;> rfl
theorem rdays_ofL {W : World} {L : List (String × DataW Unit)} (hL : laidMet Tryz.prog L W) (hm : ("timetable/timetableref06.days", (Rows.laid_timetable_timetableref06_days : DataW Unit)) ∈ L) : RDays W := by
  obtain ⟨g, t, cs, fuel, p, hg, hty, hvar, hd⟩ := Lib.laidMet.reads hL hm
  obtain rfl := Option.some.inj (gRDays.symm.trans hg)
  obtain rfl := Option.some.inj ((show (Tryz.prog.globals[1]?).map (·.type) = some 112 by kernel_rfl).symm.trans hty)
  intro j v hj
  have hj7 : j < 7 := (List.getElem?_eq_some_iff.1 hj).1
  rw [World.var?_cell gRDays hvar j, ← Array.getElem?_toList, rday_cell hd j hj7, ← hj]
  rcases (show j = 0 ∨ j = 1 ∨ j = 2 ∨ j = 3 ∨ j = 4 ∨ j = 5 ∨ j = 6 by omega) with rfl | rfl | rfl | rfl | rfl | rfl | rfl <;> rfl
theorem maxLen_of {W : World} (h : W.ShapedOpen Tryz.prog) : ∃ m, W.cell? ⟨5, 0, none⟩ = some (.int .i64 m) :=
  cell_of_shapedOpen_int (t := 3) (zero := #[.int .i64 0]) h (of_decide_eq_true (by kernel_rfl)) (by kernel_rfl) rfl (by kernel_rfl) (by kernel_rfl) Tryz.underlying3
theorem env_ofL {W : World} (h : Names W) (he : ∃ ev, W.cell? ⟨9, 0, none⟩ = some ev ∧ (ev = .nilIface ∨ ∃ te pe, ev = .iface te pe)) : Env W := by
  obtain ⟨ev, h1, h2⟩ := he
  exact ⟨h, ⟨ev, h1, h2⟩, World.block_lt_of_cell? W _ h1⟩
theorem env3_ofL {W : World} {L : List (String × DataW Unit)} (hL : laidMet Tryz.prog L W) (hm : ("internal/strconv.uint64pow10", (Rows.laid_internal_strconv_uint64pow10 : DataW Unit)) ∈ L) (hsh : W.ShapedOpen Tryz.prog) (he : ∃ ev, W.cell? ⟨9, 0, none⟩ = some ev ∧ (ev = .nilIface ∨ ∃ te pe, ev = .iface te pe)) : S3.Env W := by
  refine ⟨maxLen_of hsh, he, ?_, by obtain ⟨ev, h1, _⟩ := he; exact World.block_lt_of_cell? W _ h1⟩
  obtain ⟨g, t, cs, fuel, p, hg, hty, hvar, hd⟩ := Lib.laidMet.reads hL hm
  obtain rfl := Option.some.inj (S3.gTab.symm.trans hg)
  obtain rfl := Option.some.inj ((show (Tryz.prog.globals[8]?).map (·.type) = some 184 by kernel_rfl).symm.trans hty)
  have hcs := Lib.cells_of_tab (n := 20) (e := 174) (zs := Lib.pow10Tab) (k := .u64) (by kernel_rfl) (by kernel_rfl) (by kernel_rfl) (by kernel_rfl) hd
  unfold Lib.TabIs
  rw [hvar, ← hcs]
theorem env7_ofL {W : World} {L : List (String × DataW Unit)} (hL : laidMet Tryz.prog L W) (hsh : W.ShapedOpen Tryz.prog) (hn : ("timetable/weekset.names", (Rows.laid_timetable_weekset_names : DataW Unit)) ∈ L) (hd : ("timetable/timegrid.days", (Rows.laid_timetable_timegrid_days : DataW Unit)) ∈ L)
    (hp : ("internal/strconv.uint64pow10", (Rows.laid_internal_strconv_uint64pow10 : DataW Unit)) ∈ L) (he : ∃ ev, W.cell? ⟨9, 0, none⟩ = some ev ∧ (ev = .nilIface ∨ ∃ te pe, ev = .iface te pe)) : Env7 W :=
  ⟨env_ofL (names_ofL hL hn) he, env3_ofL hL hp hsh he, days_ofL hL hd⟩
theorem renv7_ofL {W : World} {L : List (String × DataW Unit)} (hL : laidMet Tryz.prog L W) (hw : ("timetable/timetableref05.words", (Rows.laid_timetable_timetableref05_words : DataW Unit)) ∈ L) (hr : ("timetable/timetableref06.days", (Rows.laid_timetable_timetableref06_days : DataW Unit)) ∈ L)
    (he : ∃ ev, W.cell? ⟨9, 0, none⟩ = some ev ∧ (ev = .nilIface ∨ ∃ te pe, ev = .iface te pe)) : REnv7 W :=
  ⟨words_ofL hL hw, rdays_ofL hL hr, by obtain ⟨ev, h1, _⟩ := he; exact World.block_lt_of_cell? W _ h1⟩
def cellsOfAgg : DataW Unit → Array Value
  | .agg l => (l.map fun | .lit (.int k z) => Value.int k z | _ => undef).toArray
  | _ => #[]
def acceptCells : Array Value := ((List.range 16).flatMap fun i => [Value.int .u8 (Lib.accLo i), Value.int .u8 (Lib.accHi i)]).toArray
def firstCells : Array Value := ((List.range 256).map fun b => Value.int .u8 (Lib.firstT b)).toArray
noncomputable def laidWorld (os : Os) : World :=
  let N := (World.settled Tryz.prog os).heap.size
  let w0 := World.holding Tryz.prog os ⟨#[.cells #[.string ⟨#[105, 110, 118, 97, 108, 105, 100, 32, 115, 121, 110, 116, 97, 120]⟩] 205, .cells #[.string ⟨#[118, 97, 108, 117, 101, 32, 111, 117, 116, 32, 111, 102, 32, 114, 97, 110, 103, 101]⟩] 205, .cells #[.string ⟨#[97, 100, 97]⟩, .string ⟨#[98, 111, 98]⟩, .string ⟨#[99, 121]⟩] 9], #[], []⟩
  let put (h : Array Obj) (g : Nat) (cs : Array Value) : Array Obj := h.modify g fun
    | .cells _ t frozen => .cells cs t frozen
    | o => o
  let h3 := put (put (put (put (put (put (put (put (put (put (put (put (w0.heap) 3 #[.string ⟨#[97, 108, 108]⟩, .string ⟨#[111, 100, 100]⟩, .string ⟨#[101, 118, 101, 110]⟩, .string ⟨#[102, 105, 114, 115, 116]⟩, .string ⟨#[115, 101, 99, 111, 110, 100]⟩]) 4 nameCells.toArray) 2 dayCells.toArray) 1 dayCells.toArray) 6 firstCells) 7 acceptCells) 9 #[.iface 203 (.pointer (some ⟨N, 0, none⟩))]) 10 #[.iface 203 (.pointer (some ⟨N + 1, 0, none⟩))]) 8 (cellsOfAgg Rows.laid_internal_strconv_uint64pow10)) 11 (cellsOfAgg Rows.laid_math_bits_deBruijn32tab)) 12 (cellsOfAgg Rows.laid_math_bits_deBruijn64tab)) 0 #[.slice (some ⟨N + 2, 0, none⟩) 3 3]
  { w0 with heap := h3 }
end Go.Proofs.YtnpfmoalgphkcaaGreatDoor
namespace Go.Proofs.YtnpfmoalgphkcaaGreatDoor
open Go Go.Proofs Go.RowKit Go.Lib
open Go.Maps (Keyed string_keyed)
open Go.WideMaps (keyOf_string_mk)
def litS (s : Str) : Lit := .string s
def setR (l : List Str) : DataW Unit := Maps.setOf (.agg []) (l.map litS)
theorem keyLit (s : Str) : WideAt.IsKeyLit (litS s) := by unfold litS; constructor
theorem sameKey_litS (a b : Str) : (litS a).sameKey (litS b) = decide (a = b) := by
  by_cases h : a = b
  · subst h
    rw [WideAt.sameKey_self (keyLit a), decide_eq_true rfl]
  · rw [Maps.sameKey_ne (fun e => h (by unfold litS at e; injection e)), decide_eq_false h]
theorem has_setR (l : List Str) (c : Str) : Maps.has (setR l) (litS c) = decide (c ∈ l) := by
  unfold setR
  rw [Maps.has_setOf _ _ _ (fun x hx => by obtain ⟨s, _, rfl⟩ := List.mem_map.1 hx; exact keyLit s)]
  rw [Bool.eq_iff_iff, List.any_eq_true, decide_eq_true_eq]
  constructor
  · rintro ⟨x, hx, hk⟩
    obtain ⟨s, hs, rfl⟩ := List.mem_map.1 hx
    rw [sameKey_litS, decide_eq_true_eq] at hk
    subst hk
    exact hs
  · intro h
    exact ⟨litS c, List.mem_map.2 ⟨c, h, rfl⟩, by rw [sameKey_litS, decide_eq_true rfl]⟩
theorem setR_snoc (l : List Str) (c : Str) : setR (l ++ [c]) = (setR l).put (litS c) (.agg []) := by
  unfold setR
  rw [List.map_append, List.map_singleton, Maps.setOf_snoc]
theorem below_grown {B : Nat} {w w' : World} (h : Below B w w') (hB : w.heap.size ≤ B) : w.grownBy w' none := ⟨h.os, h.tape, h.output, h.size, fun k hk _ => h.block k (Nat.lt_of_lt_of_le hk hB)⟩
theorem law9 : Keyed Tryz.prog 9 := string_keyed Tryz.underlying9
def addM (l : List Str) (c : Str) : List Str × Int := if c ∈ l then (l, 11) else if l.length = 16 then (l, 2) else (l ++ [c], 0)
theorem grown_none {w w' : World} {B : Nat} (h : w.grownBy w' none) : w.grownBy w' (some B) := ⟨h.os, h.tape, h.output, h.size, fun k hk _ => h.block k hk (by simp)⟩
end Go.Proofs.YtnpfmoalgphkcaaGreatDoor
namespace Go.Proofs.YtnpfmoalgphkcaaGreatDoor
open Go Go.Proofs Go.RowKit Go.Lib
abbrev FieldD := Str × Int × Bool
abbrev RecD := Int × List FieldD
abbrev ProbD := Int × Int × Int
def fieldVs (f : FieldD) : List Value := [.string (ba f.1), .int .i64 f.2.1, .bool f.2.2]
def FieldsIn (w : World) (P : Nat → Prop) (A : Option Addr) (l : List FieldD) : Prop :=
  l = [] ∨ ∃ b off, A = some ⟨b, off, none⟩ ∧ P b ∧ ∀ (j : Nat) (t : FieldD), l[j]? = some t → ∀ (i : Nat) (v : Value), (fieldVs t)[i]? = some v → w.cell? ⟨b, off + j * 3 + i, none⟩ = some v
theorem FieldsIn.kept {w w' : World} {P : Nat → Prop} {A : Option Addr} {l : List FieldD} (h : FieldsIn w P A l) (hk : ∀ b, P b → w'.heap[b]? = w.heap[b]?) : FieldsIn w' P A l := by
  rcases h with h | ⟨b, off, hA, hP, hc⟩
  · exact .inl h
  · exact .inr ⟨b, off, hA, hP, fun j t hj i v hv => (World.cell?_of_block (w := w) (hk b hP)).trans (hc j t hj i v hv)⟩
theorem FieldsIn.mono {w : World} {P P' : Nat → Prop} {A : Option Addr} {l : List FieldD} (h : FieldsIn w P A l) (hP : ∀ b, P b → P' b) : FieldsIn w P' A l := by
  rcases h with h | ⟨b, off, hA, hb, hc⟩
  · exact .inl h
  · exact .inr ⟨b, off, hA, hP b hb, hc⟩
theorem FieldsIn.below {w w' : World} {B : Nat} {A : Option Addr} {l : List FieldD} (h : FieldsIn w (fun b => b < B) A l) (hb : Below B w w') : FieldsIn w' (fun b => b < B) A l := h.kept fun b hB => hb.block b hB
theorem FieldsIn.at_ {w : World} {P : Nat → Prop} {A : Option Addr} {l : List FieldD} (h : FieldsIn w P A l) {k : Nat} (hk : k < l.length) :
    ∃ b off, A = some ⟨b, off, none⟩ ∧ P b ∧ w.cell? ⟨b, off + k * 3, none⟩ = some (.string (ba l[k].1)) ∧ w.cell? ⟨b, off + k * 3 + 1, none⟩ = some (.int .i64 l[k].2.1) ∧ w.cell? ⟨b, off + k * 3 + 2, none⟩ = some (.bool l[k].2.2) := by
  rcases h with h | ⟨b, off, hA, hP, hc⟩
  · subst h; simp at hk
  · have hg := List.getElem?_eq_getElem hk
    exact ⟨b, off, hA, hP, hc k _ hg 0 _ rfl, hc k _ hg 1 _ rfl, hc k _ hg 2 _ rfl⟩
def RecsIn (w : World) (P : Nat → Prop) (A : Option Addr) (l : List RecD) : Prop :=
  l = [] ∨ ∃ b off, A = some ⟨b, off, none⟩ ∧ P b ∧ ∀ (j : Nat) (r : RecD), l[j]? = some r → ∃ A' c', FieldsIn w P A' r.2 ∧ r.2.length ≤ c' ∧ c' ≤ 9223372036854775807 ∧ w.cell? ⟨b, off + j * 2, none⟩ = some (.int .i64 r.1) ∧ w.cell? ⟨b, off + j * 2 + 1, none⟩ = some (.slice A' r.2.length c')
theorem RecsIn.kept {w w' : World} {P : Nat → Prop} {A : Option Addr} {l : List RecD} (h : RecsIn w P A l) (hk : ∀ b, P b → w'.heap[b]? = w.heap[b]?) : RecsIn w' P A l := by
  rcases h with h | ⟨b, off, hA, hP, hc⟩
  · exact .inl h
  · refine .inr ⟨b, off, hA, hP, fun j r hj => ?_⟩
    obtain ⟨A', c', h1, h2, h3, h4, h5⟩ := hc j r hj
    exact ⟨A', c', h1.kept hk, h2, h3, (World.cell?_of_block (w := w) (hk b hP)).trans h4, (World.cell?_of_block (w := w) (hk b hP)).trans h5⟩
theorem RecsIn.mono {w : World} {P P' : Nat → Prop} {A : Option Addr} {l : List RecD} (h : RecsIn w P A l) (hP : ∀ b, P b → P' b) : RecsIn w P' A l := by
  rcases h with h | ⟨b, off, hA, hb, hc⟩
  · exact .inl h
  · refine .inr ⟨b, off, hA, hP b hb, fun j r hj => ?_⟩
    obtain ⟨A', c', h1, h2, h3, h4, h5⟩ := hc j r hj
    exact ⟨A', c', h1.mono hP, h2, h3, h4, h5⟩
theorem RecsIn.below {w w' : World} {B : Nat} {A : Option Addr} {l : List RecD} (h : RecsIn w (fun b => b < B) A l) (hb : Below B w w') : RecsIn w' (fun b => b < B) A l := h.kept fun b hB => hb.block b hB
theorem RecsIn.at_ {w : World} {P : Nat → Prop} {A : Option Addr} {l : List RecD} (h : RecsIn w P A l) {k : Nat} (hk : k < l.length) :
    ∃ b off A' c', A = some ⟨b, off, none⟩ ∧ P b ∧ FieldsIn w P A' l[k].2 ∧ l[k].2.length ≤ c' ∧ c' ≤ 9223372036854775807 ∧ w.cell? ⟨b, off + k * 2, none⟩ = some (.int .i64 l[k].1) ∧ w.cell? ⟨b, off + k * 2 + 1, none⟩ = some (.slice A' l[k].2.length c') := by
  rcases h with h | ⟨b, off, hA, hP, hc⟩
  · subst h; simp at hk
  · obtain ⟨A', c', h1, h2, h3, h4, h5⟩ := hc k _ (List.getElem?_eq_getElem hk)
    exact ⟨b, off, A', c', hA, hP, h1, h2, h3, h4, h5⟩
theorem infoTime : (Tryz.prog.info? 26).map (fun i => (i.zero, i.size, i.bytes)) = some (some (.agg #[.int .i64 0, .int .i64 0, .int .i64 0, .int .i64 0]), 4, 32) := by kernel_rfl
theorem infoProb : (Tryz.prog.info? 79).map (fun i => (i.zero, i.size, i.bytes)) = some (some (.agg #[.int .i64 0, .int .i64 0, .int .i64 0, .int .i64 0]), 4, 32) := by kernel_rfl
def timeVals (l : List TimeD) : List Value := l.flatMap timeVs
theorem timeVals_app (a b : List TimeD) : timeVals (a ++ b) = timeVals a ++ timeVals b := by simp [timeVals]
theorem timeVals_get : ∀ (l : List TimeD) (j : Nat) (t : TimeD), l[j]? = some t → ∀ (i : Nat) (v : Value), (timeVs t)[i]? = some v → (timeVals l)[j * 4 + i]? = some v
  | [], j, t, h, _, _, _ => by simp at h
  | a :: r, 0, t, h, i, v, hv => by
    simp at h
    subst h
    have hi : i < 4 := (List.getElem?_eq_some_iff.1 hv).1
    unfold timeVals
    rw [List.flatMap_cons, List.getElem?_append_left (by show _ < 4; omega)]
    simpa using hv
  | a :: r, j + 1, t, h, i, v, hv => by
    have := timeVals_get r j t (by simpa using h) i v hv
    unfold timeVals at this ⊢
    rw [List.flatMap_cons, List.getElem?_append_right (by show 4 ≤ _; omega)]
    show (List.flatMap timeVs r)[(j + 1) * 4 + i - 4]? = _
    rw [show (j + 1) * 4 + i - 4 = j * 4 + i by omega]
    exact this
theorem timeVals_one : ∀ (l : List TimeD), ∀ u ∈ timeVals l, u.oneCell' = true := by
  intro l u hu
  obtain ⟨t, _, h⟩ := List.mem_flatMap.1 hu
  simp [timeVs] at h
  rcases h with rfl | rfl | rfl | rfl <;> rfl
def TimeRow (w : World) (B : Nat) (v : Value) (l : List TimeD) : Prop := w.ownsRow B 26 4 v l.length (timeVals l)
theorem TimeRow.timesIn {w : World} {B : Nat} {v : Value} {l : List TimeD} (h : TimeRow w B v l) (hle : ∀ t ∈ l, t.2.2.1 ≤ 9223372036854775807) : ∃ A c, v = .slice A l.length c ∧ l.length ≤ c ∧ c ≤ 9223372036854775807 ∧ TimesIn w (fun b => B ≤ b ∧ b < w.heap.size) A l := by
  have h' := h
  rcases h.2 with ⟨hv, h0⟩ | ⟨g, cap, cur, hv, hB, hg, h1, h2, _⟩
  · have hl : l = [] := List.eq_nil_of_length_eq_zero h0
    subst hl
    exact ⟨none, 0, hv, Nat.le_refl _, by omega, TimesIn.nil _ _ _⟩
  · refine ⟨_, cap, hv, h1, by unfold maxLen at h2; omega, hle, .inr ⟨g, 0, rfl, ⟨hB, (Array.getElem?_eq_some_iff.1 hg).1⟩, fun j t hj i v' hv' => ?_⟩⟩
    have := World.ownsRow.cells h' (g := g) (by rw [hv]; rfl) (j * 4 + i) v' (timeVals_get l j t hj i v' hv')
    rw [Addr.add_lit] at this
    rw [← Nat.add_assoc] at this
    exact this
def probVs (p : ProbD) : List Value := [.int .i64 0, .int .i64 p.1, .int .i64 p.2.1, .int .i64 p.2.2]
def probVals (l : List ProbD) : List Value := l.flatMap probVs
theorem probVals_app (a b : List ProbD) : probVals (a ++ b) = probVals a ++ probVals b := by simp [probVals]
def ProbsRow (w : World) (B : Nat) (v : Value) (l : List ProbD) : Prop := w.ownsRow B 79 4 v l.length (probVals l)
def sortS (l : List Str) : List Str := l.mergeSort fun x y => decide (x ≤ y)
def seatsM (s : Str) : Int × Int := if numD 4 s = 0 then (0, 4) else ((numD 4 s : Nat), 0)
def featsM (s : Str) : List Str × Int := if (S3.listM s).2 ≠ 0 then ([], (S3.listM s).2) else if 8 < (S3.listM s).1.length then ([], 2) else (sortS (S3.listM s).1, 0)
def tgo (d s b m n : Int) : List Str → List TimeD → List TimeD × Int
  | [], acc => (acc, 0)
  | p :: ps, acc => if (timeM d s b m n p).2 ≠ 0 then ([], (timeM d s b m n p).2) else tgo d s b m n ps (acc ++ [(timeM d s b m n p).1])
def timesM (d s b m n : Int) (x : Str) : List TimeD × Int :=
  if x = [] then ([], 0) else if (tgo d s b m n (S3.splitL x) []).2 ≠ 0 then ([], (tgo d s b m n (S3.splitL x) []).2)
  else if 24 < (tgo d s b m n (S3.splitL x) []).1.length then ([], 2) else ((tgo d s b m n (S3.splitL x) []).1, 0)
theorem tgo_app (d s b m n : Int) : ∀ (ps : List Str) (acc : List TimeD) (qs : List Str), (tgo d s b m n ps acc).2 = 0 → tgo d s b m n (ps ++ qs) acc = tgo d s b m n qs (tgo d s b m n ps acc).1
  | [], acc, qs, _ => rfl
  | p :: ps, acc, qs, h => by
    simp only [tgo, List.cons_append] at h ⊢
    by_cases hc : (timeM d s b m n p).2 = 0
    · rw [if_neg (by simpa using hc)] at h ⊢
      rw [if_neg (by simpa using hc)]
      exact tgo_app d s b m n ps _ qs h
    · rw [if_pos hc] at h
      exact absurd h hc
theorem tgo_len (d s b m n : Int) : ∀ (ps : List Str) (acc : List TimeD), (tgo d s b m n ps acc).2 = 0 → (tgo d s b m n ps acc).1.length = acc.length + ps.length
  | [], acc, _ => by simp [tgo]
  | p :: ps, acc, h => by
    simp only [tgo] at h ⊢
    by_cases hc : (timeM d s b m n p).2 = 0
    · rw [if_neg (by simpa using hc)] at h ⊢
      rw [tgo_len d s b m n ps _ h]
      simp
      omega
    · rw [if_pos hc] at h
      exact absurd h hc
def setF (d s b m n : Int) (i : Nat) (x : Str) (r : RoomD) : RoomD × Int :=
  match i with
  | 0 => if S3.validC x = true then ((x, r.2), 0) else (([], r.2), 10)
  | 1 => if S3.validC x = true then ((r.1, x, r.2.2), 0) else ((r.1, [], r.2.2), 10)
  | 2 => ((r.1, r.2.1, (seatsM x).1, r.2.2.2), (seatsM x).2)
  | 3 => ((r.1, r.2.1, r.2.2.1, (featsM x).1, r.2.2.2.2), (featsM x).2)
  | 4 => ((r.1, r.2.1, r.2.2.1, r.2.2.2.1, (timesM d s b m n x).1), (timesM d s b m n x).2)
  | _ => (r, 0)
def zeroR : RoomD := ([], [], 0, [], [])
def efold (d s b m n : Int) : List FieldD → Nat → RoomD → RoomD × Int × Int
  | [], _, r => (r, 0, 0)
  | f :: fs, i, r => if (setF d s b m n i f.1 r).2 ≠ 0 then ((setF d s b m n i f.1 r).1, f.2.1, (setF d s b m n i f.1 r).2) else efold d s b m n fs (i + 1) (setF d s b m n i f.1 r).1
def entryM (d s b m n : Int) (fs : List FieldD) : RoomD × Int × Int := if fs.length ≠ 5 then (zeroR, 0, 9) else efold d s b m n fs 0 zeroR
theorem efold_step (d s b m n : Int) (fs : List FieldD) (i : Nat) (h : i < fs.length) (r : RoomD) :
    efold d s b m n (fs.drop i) i r = if (setF d s b m n i fs[i].1 r).2 ≠ 0 then ((setF d s b m n i fs[i].1 r).1, fs[i].2.1, (setF d s b m n i fs[i].1 r).2) else efold d s b m n (fs.drop (i + 1)) (i + 1) (setF d s b m n i fs[i].1 r).1 := by
  rw [List.drop_eq_getElem_cons h, efold]
def addC (l : List RoomD) (c : Str) : Int := if c ∈ codesR l then 11 else if l.length = 16 then 2 else 0
def recM (d s b m n : Int) (st : List RoomD × List ProbD) (x : RecD) : List RoomD × List ProbD :=
  if (entryM d s b m n x.2).2.2 ≠ 0 then (st.1, st.2 ++ [(x.1, (entryM d s b m n x.2).2.1, (entryM d s b m n x.2).2.2)])
  else if addC st.1 (entryM d s b m n x.2).1.1 ≠ 0 then (st.1, st.2 ++ [(x.1, (entryM d s b m n x.2).2.1, addC st.1 (entryM d s b m n x.2).1.1)])
  else (st.1 ++ [(entryM d s b m n x.2).1], st.2)
def recsM (d s b m n : Int) (l : List RecD) : List RoomD × List ProbD := l.foldl (recM d s b m n) ([], [])
def readM (d s b m n : Int) (l : List RecD) : List RoomD × List ProbD := if frameB d s b m n = true then recsM d s b m n l else ([], [(0, 0, 1)])
theorem recsM_take (d s b m n : Int) (l : List RecD) (i : Nat) (h : i < l.length) : recsM d s b m n (l.take (i + 1)) = recM d s b m n (recsM d s b m n (l.take i)) l[i] := by
  unfold recsM
  rw [List.take_succ_eq_append_getElem h, List.foldl_append]
  rfl
theorem recM_room_len (d s b m n : Int) (st : List RoomD × List ProbD) (x : RecD) (h : st.1.length ≤ 16) : (recM d s b m n st x).1.length ≤ 16 := by
  unfold recM
  split
  · exact h
  · split
    · exact h
    · rename_i h2
      unfold addC at h2
      by_cases h3 : (entryM d s b m n x.2).1.1 ∈ codesR st.1
      · rw [if_pos h3] at h2; simp at h2
      · rw [if_neg h3] at h2
        by_cases h4 : st.1.length = 16
        · rw [if_pos h4] at h2; simp at h2
        · simp; omega
theorem recsM_len (d s b m n : Int) (l : List RecD) : (recsM d s b m n l).1.length ≤ 16 := by
  unfold recsM
  have : ∀ (l : List RecD) (st : List RoomD × List ProbD), st.1.length ≤ 16 → (l.foldl (recM d s b m n) st).1.length ≤ 16 := by
    intro l
    induction l with
    | nil => exact fun st h => h
    | cons x r ih => exact fun st h => ih _ (recM_room_len d s b m n st x h)
  exact this l _ (by simp)
theorem recsM_probs (d s b m n : Int) (l : List RecD) : (recsM d s b m n l).2.length ≤ l.length := by
  unfold recsM
  have : ∀ (l : List RecD) (st : List RoomD × List ProbD), (l.foldl (recM d s b m n) st).2.length ≤ st.2.length + l.length := by
    intro l
    induction l with
    | nil => exact fun st => Nat.le_refl _
    | cons x r ih =>
      intro st
      rw [List.foldl_cons]
      refine Nat.le_trans (ih _) ?_
      have : (recM d s b m n st x).2.length ≤ st.2.length + 1 := by
        unfold recM
        split
        · simp
        · split <;> simp
      simp
      omega
  simpa using this l ([], [])
theorem addM_codes (l : List RoomD) (c : Str) : (addM (codesR l) c).2 = addC l c ∧ (addM (codesR l) c).1 = if addC l c = 0 then codesR l ++ [c] else codesR l := by
  unfold addM addC
  have e : (codesR l).length = l.length := by simp [codesR]
  rw [e]
  by_cases h : c ∈ codesR l
  · rw [if_pos h, if_pos h]; simp
  · rw [if_neg h, if_neg h]
    by_cases h2 : l.length = 16
    · rw [if_pos h2, if_pos h2]; simp
    · rw [if_neg h2, if_neg h2]; simp
end Go.Proofs.YtnpfmoalgphkcaaGreatDoor
