/-
  The program's List: its contract (listM). Conditions: the library's variables hold what its text lays; the string has fewer than 2^32 - 15 bytes.
  Curricula as data: what is asked of one and of a list; their records. No program.
  The rooms that are known, by their codes: add of rooms. Conditions: the map is one of the call's own, with the codes l; the room's code fits into memory.
  Entries with different codes: the function that Distinct of package entries returns, at curricula. Conditions: the map is one of the call's own, with the codes l; the code fits into memory.
  Reading curricula, as mathematics: fields, entries, lists of records. No program.
  Small general facts and definitions, taken out of R7O. No program.
  What reading a field and an entry leave behind; a curriculum in a block of its own. Conditions: as stated.
  Small general facts and definitions, taken out of R7EI. No program.
-/
import Derived.Test.YtpaejkhaiifgdaaGreatDoorGN01
import Derived.Test.YtpaejkhaiifgdaaGreatDoorGN02
import Derived.Test.YtpaejkhaiifgdaaGreatDoorGN03
import Derived.Test.YtpaejkhaiifgdaaGreatDoorGN04
import Derived.Test.YtpaejkhaiifgdaaGreatDoorGN06
import Derived.Test.YtpaejkhaiifgdaaGreatDoorGN07
import Derived.RangeFuncNested
import Derived.RangeFuncBound
import Derived.RangeFuncCalls
import Derived.RangeFuncLeaves
import Derived.Shelf.Abstract
import Derived.Shelf.RegionOpen
import Derived.OwnWalkIn
import Derived.Lib.Bytealg
import Derived.Lib.ItoaNum
import Derived.Lib.Atoi
import Derived.Lib.SlTrimSet
import Derived.Test.YtpaejkhaiifgdaaGreatDoorProg
import Derived.WalkKit
import Derived.WalkSpells
import Derived.WalkLawsBesides
import Derived.Lib.Hide
import Derived.Deep.QuietTactic
import Derived.BigQuiet
import Derived.Laws.Rows
import Derived.OwnWalk
import Derived.Lib.BufferWrite
import Derived.Lib.UnsafeStr
import Derived.Laws.IdiomStrings
import Derived.Laws.BytesArg
import Derived.Laws.BytesString
import Derived.Shelf.Strings.Builder1
import Derived.Shelf.Strings.Builder2
import Derived.Shelf.Strings.OnBuilder
import Derived.Shelf.Strings.Trim
import Derived.Shelf.Small.Utf8
import Derived.Shelf.Small.Strs
import Derived.Shelf.Strings.BuilderF
import Derived.Shelf.Strings.BuilderK
import Derived.Shelf.Strings.Builder2Cap
import Derived.Shelf.Strconv.Atoi
import Derived.Shelf.Strconv.Itoa0
import Derived.Shelf.Strconv.Itoa1
import Derived.Shelf.LaysM
import Derived.Shelf.Strconv.Itoa2
import Derived.Shelf.Strconv.Itoa3
import Derived.Shelf.Strconv.AtoiErrFast
import Derived.Shelf.Strconv.ParseIntEmpty
import Derived.Shelf.Strconv.AtoiFail
import Derived.Shelf.Strconv.Clone
import Derived.Shelf.Strconv.SyntaxError
import Derived.Shelf.LaysC
import Derived.Shelf.Strconv.ToError
import Derived.Shelf.Strconv.AtoiErr
import Derived.Shelf.Strings.Search1
import Derived.Shelf.Strings.Search2
import Derived.Shelf.Strings.Search3
import Derived.Shelf.Strings.Cut
import Derived.Shelf.Strings.Shaped
import Derived.Shelf.Strings.Prefix
import Derived.Shelf.Strings.Runes
import Derived.Shelf.Strings.AsciiSet
import Derived.Shelf.Bits.Mul64
import Derived.Shelf.Strings.Repeat
import Derived.Shelf.Unicode.DecodeSlow
import Derived.Shelf.Strings.BuilderCap
import Derived.Shelf.Slices.Turned
import Derived.Shelf.Strings.SlTrimAscii
import Derived.Lib.AtoiErrMem
import Derived.Handy
import Derived.Laws.ResultCell
import Derived.RegionTactic
import Derived.Lib.Repeat
import Derived.Deep.RegionHeld3
import Derived.Laws.OwnMore
import Derived.Lib.SlicesS
import Derived.Lib.IndexLaws
import Derived.TacticsInMore
import Derived.LoopNIn
import Derived.LoopIn
import Derived.Maps.OwnSet
import Derived.Maps.Range
import Derived.Deep.RegionLaw
set_option linter.unusedVariables false
namespace Go.Proofs.YtpaejkhaiifgdaaGreatDoor.S3
open Go Go.Proofs Go.RowKit Go.Lib
attribute [local go_sem] Oper.semAt_some

/-- The codes of the parts, behind those that have come. -/
def listGo : List Str → List Str → List Str × Int
  | [], l => (l, 0)
  | p :: ps, l => if (partM p (64 - (l.length : Int))).2 ≠ 0 then ([], (partM p (64 - (l.length : Int))).2) else listGo ps (l ++ (partM p (64 - (l.length : Int))).1)
/-- What List hands back. -/
def listM (s : Str) : List Str × Int :=
  if s = [] then ([], 0) else if (listGo (splitL s) []).2 ≠ 0 then ([], (listGo (splitL s) []).2)
  else if checkM (listGo (splitL s) []).1 ≠ 0 then ([], checkM (listGo (splitL s) []).1) else ((listGo (splitL s) []).1, 0)
theorem listGo_app : ∀ (ps : List Str) (l : List Str) (qs : List Str), (listGo ps l).2 = 0 → listGo (ps ++ qs) l = listGo qs (listGo ps l).1
  | [], l, qs, _ => rfl
  | p :: ps, l, qs, h => by
    simp only [listGo, List.cons_append] at h ⊢
    by_cases hc : (partM p (64 - (l.length : Int))).2 = 0
    · rw [if_neg (by simpa using hc)] at h ⊢
      rw [if_neg (by simpa using hc)]
      exact listGo_app ps _ qs h
    · rw [if_pos hc] at h
      exact absurd h hc
theorem partM_ok (p : Str) (m : Int) (h : (partM p m).2 = 0) : 1 ≤ (partM p m).1.length ∧ ((partM p m).1.length : Int) ≤ m := by
  unfold partM at h ⊢
  split at h
  · simp at h
  · rename_i h1
    rw [if_neg h1]
    split at h
    · simp at h
    · rename_i h2
      rw [if_neg h2]
      split at h
      · simp at h
      · rename_i h3
        rw [if_neg h3]
        split at h
        · simp at h
        · rename_i h4
          rw [if_neg h4]
          simp only
          rw [expandL_len _ _ (by omega)]
          omega
theorem splitL_mem : ∀ (l : Str) (p : Str), p ∈ splitL l → p.length ≤ l.length
  | [], p, h => by simp [splitL] at h; simp [h]
  | c :: s, p, h => by
    have ih := splitL_mem s
    simp only [splitL] at h
    split at h
    · rcases List.mem_cons.1 h with rfl | h
      · simp
      · have := ih p h; simp; omega
    · have hne := splitL_ne s
      obtain ⟨a, t, hat⟩ : ∃ a t, splitL s = a :: t := by cases hs : splitL s with | nil => exact absurd hs hne | cons a t => exact ⟨a, t, rfl⟩
      rw [hat] at h
      simp only [List.headD_cons, List.tail_cons] at h
      rcases List.mem_cons.1 h with rfl | h
      · have := ih a (by rw [hat]; exact .head _); simp; omega
      · have := ih p (by rw [hat]; exact .tail _ h); simp; omega

set_option maxHeartbeats 1000000 in
theorem splitSeq_any (s : ByteArray) (w : World) : Calls Tryz.prog 88 #[.string s, .string ⟨#[59]⟩] w fun e w' =>
    e = .returned (.func (.func 116) #[] #[.pointer (some ⟨w.heap.size + 1, 0, none⟩), .pointer (some ⟨w.heap.size, 0, none⟩), .pointer (some ⟨w.heap.size + 2, 0, none⟩)]) ∧
    w' = ((w.alloc (.cells #[.string s] 9)).alloc (.cells #[.string ⟨#[59]⟩] 9)).alloc (.cells #[.int .i64 0] 3) := by
  have c56 : Calls Tryz.prog 99 #[.string s, .string ⟨#[59]⟩, .int .i64 0] w fun e w' =>
      e = .returned (.func (.func 116) #[] #[.pointer (some ⟨w.heap.size + 1, 0, none⟩), .pointer (some ⟨w.heap.size, 0, none⟩), .pointer (some ⟨w.heap.size + 2, 0, none⟩)]) ∧
      w' = ((w.alloc (.cells #[.string s] 9)).alloc (.cells #[.string ⟨#[59]⟩] 9)).alloc (.cells #[.int .i64 0] 3) := by
    go_enter Tryz.func99, Tryz.ntmps99
    go_wp2
    go_ret
    exact ⟨rfl, rfl⟩
  go_enter Tryz.func88, Tryz.ntmps88
  go_wp2_with fail
  refine c56.mono ?_
  rintro e w' ⟨rfl, rfl⟩
  go_wp2
  go_ret
  exact ⟨rfl, rfl⟩

/-- Between two rounds. -/
structure LInv (N : Nat) (w : World) (st : St) (W : World) : Prop where
  below : Below N w W
  size : N + 6 ≤ W.heap.size
  r1 : Boxed W N 39 (.slice none 0 0)
  r2 : Boxed W (N + 1) 30 (.int .i64 0)
  v1 : Boxed W (N + 3) 9 (.string st.2)
  v2 : Boxed W (N + 4) 9 (.string ⟨#[59]⟩)
  v3 : Boxed W (N + 5) 3 (.int .i64 0)
  acc : ∃ v, Boxed W (N + 2) 39 v ∧ StrRow W (N + 6) v (listGo st.1 []).1
  ok : (listGo st.1 []).2 = 0
  len : (listGo st.1 []).1.length ≤ 64
/-- A round has returned. -/
structure LErr (N : Nat) (w : World) (s : Str) (W : World) : Prop where
  below : Below N w W
  out : ∃ e : Int, (listGo (splitL s) []).2 = e ∧ e ≠ 0 ∧ Boxed W N 39 (.slice none 0 0) ∧ Boxed W (N + 1) 30 (.int .i64 e)
theorem LInv.kept {N : Nat} {w : World} {st : St} {W W' : World} {row : Option Nat} (h : LInv N w st W) (hN : N ≤ w.heap.size) (hg : W.grownBy W' row) (hr : ∀ r, row = some r → N + 6 ≤ r) (hrow : ∀ v, Boxed W (N + 2) 39 v → StrRow W (N + 6) v (listGo st.1 []).1 → v.ownBlock = none ∨ v.ownBlock ≠ row) : LInv N w st W' := by
  have hne : ∀ B, B < N + 6 → some B ≠ row := fun B hB e => by have := hr B e.symm; omega
  obtain ⟨v, hv, hw⟩ := h.acc
  have hs := h.below.size
  exact ⟨h.below.grown hg (by omega) (fun k e => by have := hr k e; omega), Nat.le_trans h.size hg.size, h.r1.kept hg (hne _ (by omega)), h.r2.kept hg (hne _ (by omega)), h.v1.kept hg (hne _ (by omega)), h.v2.kept hg (hne _ (by omega)), h.v3.kept hg (hne _ (by omega)),
    ⟨v, hv.kept hg (hne _ (by omega)), World.ownsRow.kept hw hg (hrow v hv hw)⟩, h.ok, h.len⟩
theorem LInv.own {N B : Nat} {w : World} (hN : N ≤ w.heap.size) (hB : N + 6 ≤ B) : OwnFrom B (LInv N w) := by
  intro st W W' row h hg hr
  refine h.kept hN hg (fun r e => by have := (hr r e).1; omega) (fun v hv hw => ?_)
  rcases hw.2 with ⟨rfl, _⟩ | ⟨g, cap, cur, rfl, _, hgb, _⟩
  · exact .inl rfl
  · refine .inr fun e' => ?_
    obtain ⟨_, o, ho, hc⟩ := hr g (by simpa [Value.ownBlock] using e'.symm)
    rw [hgb] at ho; cases ho; cases hc
theorem LErr.own {N B : Nat} {w : World} {s : Str} (hN : N ≤ w.heap.size) (hB : N + 6 ≤ B) : OwnFrom B (fun (_ : Unit) W => LErr N w s W) := by
  rintro _ W W' row ⟨hb, e, he, h0, h1, h2⟩ hg hr
  have hne : ∀ B, B < N + 6 → some B ≠ row := fun B' hB' e => by have := (hr B' e.symm).1; omega
  have hs := hb.size
  exact ⟨hb.grown hg (by omega) (fun k e => by have := (hr k e).1; omega), e, he, h0, h1.kept hg (hne _ (by omega)), h2.kept hg (hne _ (by omega))⟩
theorem LInv.turn {N : Nat} {w : World} {st : St} {W : World} (h : LInv N w st W) (hN : N ≤ w.heap.size) (r : ByteArray) : LInv N w (st.1, r) (W.setCell ⟨N + 3, 0, none⟩ (.string r)) := by
  have hg := grownBy_setCell' W (N + 3) (.string r)
  have hne : ∀ B, B ≠ N + 3 → some B ≠ some (N + 3) := fun B hB e => hB (by injection e)
  obtain ⟨v, hv, hw⟩ := h.acc
  have hs := h.below.size
  refine ⟨h.below.grown hg (by omega) (fun k e => by injection e; omega), Nat.le_trans h.size hg.size, h.r1.kept hg (hne _ (by omega)), h.r2.kept hg (hne _ (by omega)), h.v1.set _, h.v2.kept hg (hne _ (by omega)), h.v3.kept hg (hne _ (by omega)),
    ⟨v, hv.kept hg (hne _ (by omega)), World.ownsRow.kept hw hg ?_⟩, h.ok, h.len⟩
  refine .inr fun e => ?_
  have := World.ownsRow.lt hw _ e
  omega
theorem LInv.vars {N : Nat} {w : World} {st : St} {W : World} (h : LInv N w st W) : SplitVars (N + 3) st.2 W := ⟨h.v1.cell, h.v1.frozen, h.v2.cell, h.v3.cell⟩
theorem results_cc {fn : Func} {p u : Tmp} {A B : TypeId} (h : fn.results = #[.cell p A, .cell u B]) (tmps : Array Value) (P : Program) (w : World) (a b : Addr) (va vb : Value)
    (ha : tmps.getD p undef = .pointer (some a)) (hb : tmps.getD u undef = .pointer (some b))
    (hla : (loadVar A a).run P w = .ok va w) (hlb : (loadVar B b).run P w = .ok vb w) : (results fn tmps).run P w = .ok (.tuple #[va, vb]) w := by
  rw [Array.getD_eq_getD_getElem?] at ha hb
  simp only [results, h]
  simp [Result.andThen, ha, hb, hla, hlb, asAddr]
theorem loadStrs {w : World} {k : Nat} {x : Value} (h0 : w.cell? ⟨k, 0, none⟩ = some x) : (loadVar 39 ⟨k, 0, none⟩).run Tryz.prog w = .ok x w := by
  simp [loadVar, go_sem, h0]
theorem loadErr {w : World} {k : Nat} {x : Value} (h0 : w.cell? ⟨k, 0, none⟩ = some x) : (loadVar 30 ⟨k, 0, none⟩).run Tryz.prog w = .ok x w := by
  simp [loadVar, go_sem, h0]

end Go.Proofs.YtpaejkhaiifgdaaGreatDoor.S3

set_option linter.unusedVariables false
namespace Go.Proofs.YtpaejkhaiifgdaaGreatDoor.S11
open Go Go.Proofs Go.RowKit Go.Lib Go.Proofs.YtpaejkhaiifgdaaGreatDoor

def codesU (l : List CurrD) : List Str := l.map (·.1)
end Go.Proofs.YtpaejkhaiifgdaaGreatDoor.S11

set_option linter.unusedVariables false
namespace Go.Proofs.YtpaejkhaiifgdaaGreatDoor
open Go Go.Proofs Go.RowKit Go.Lib
open Go.Maps (Keyed string_keyed)
open Go.WideMaps (keyOf_string_mk)

def litS (s : Str) : Lit := .string s
def setR (l : List Str) : DataW Unit := Maps.setOf (.agg []) (l.map litS)
theorem keyLit (s : Str) : WideAt.IsKeyLit (litS s) := by unfold litS; constructor
theorem sameKey_litS (a b : Str) : (litS a).sameKey (litS b) = decide (a = b) := by
  by_cases h : a = b
  · subst h
    rw [WideAt.sameKey_self (keyLit a), decide_eq_true rfl]
  · rw [Maps.sameKey_ne (fun e => h (by unfold litS at e; injection e)), decide_eq_false h]
theorem has_setR (l : List Str) (c : Str) : Maps.has (setR l) (litS c) = decide (c ∈ l) := by
  unfold setR
  rw [Maps.has_setOf _ _ _ (fun x hx => by obtain ⟨s, _, rfl⟩ := List.mem_map.1 hx; exact keyLit s)]
  rw [Bool.eq_iff_iff, List.any_eq_true, decide_eq_true_eq]
  constructor
  · rintro ⟨x, hx, hk⟩
    obtain ⟨s, hs, rfl⟩ := List.mem_map.1 hx
    rw [sameKey_litS, decide_eq_true_eq] at hk
    subst hk
    exact hs
  · intro h
    exact ⟨litS c, List.mem_map.2 ⟨c, h, rfl⟩, by rw [sameKey_litS, decide_eq_true rfl]⟩
theorem setR_snoc (l : List Str) (c : Str) : setR (l ++ [c]) = (setR l).put (litS c) (.agg []) := by
  unfold setR
  rw [List.map_append, List.map_singleton, Maps.setOf_snoc]
theorem below_grown {B : Nat} {w w' : World} (h : Below B w w') (hB : w.heap.size ≤ B) : w.grownBy w' none := ⟨h.os, h.tape, h.output, h.size, fun k hk _ => h.block k (Nat.lt_of_lt_of_le hk hB)⟩
theorem law9 : Keyed Tryz.prog 9 := string_keyed Tryz.underlying9
theorem grown_none {w w' : World} {B : Nat} (h : w.grownBy w' none) : w.grownBy w' (some B) := ⟨h.os, h.tape, h.output, h.size, fun k hk _ => h.block k hk (by simp)⟩

end Go.Proofs.YtpaejkhaiifgdaaGreatDoor

set_option linter.unusedVariables false
namespace Go.Proofs.YtpaejkhaiifgdaaGreatDoor.S11
open Go Go.Proofs Go.RowKit Go.Lib Go.Proofs.YtpaejkhaiifgdaaGreatDoor
open Go.Maps (Keyed string_keyed)
open Go.WideMaps (keyOf_string_mk)

/-- How a curriculum reads in the map of known ones: all that matters is that it is one. -/
def aggL : Value → Option (DataW Unit × List MemPlace)
  | .agg ⟨[.string _, .slice _ _ _]⟩ => some (.agg [], [])
  | _ => none
theorem aggL_mk (a : ByteArray) (A1 : Option Addr) (n1 c1 : Nat) : aggL (.agg #[.string a, .slice A1 n1 c1]) = some (.agg [], []) := rfl
theorem aggL_inv {v : Value} {z : DataW Unit × List MemPlace} (h : aggL v = some z) : ∃ (a : ByteArray) (A1 : Option Addr) (n1 c1 : Nat), v = .agg #[.string a, .slice A1 n1 c1] := by
  unfold aggL at h
  split at h
  · exact ⟨_, _, _, _, rfl⟩
  · cases h
/-- Block B is the map of the curricula with the codes l. -/
structure KMap (w : World) (B : Nat) (l : List Str) : Prop where
  own : w.ownsMap Tryz.prog 9 aggL B l.length (setR l)
  sz : Maps.size (setR l) = l.length
theorem KMap.made (w : World) : KMap (w.alloc (.map #[] 0)) w.heap.size [] := ⟨World.ownsMap_made _ _ _ _, rfl⟩
theorem KMap.kept {w w' : World} {B : Nat} {l : List Str} {row : Option Nat} (h : KMap w B l) (hg : w.grownBy w' row) (hne : some B ≠ row) : KMap w' B l := ⟨h.own.kept hg hne, h.sz⟩
theorem KMap.below {w w' : World} {B : Nat} {l : List Str} (h : KMap w B l) (hb : Below w.heap.size w w') : KMap w' B l := h.kept (below_grown hb (Nat.le_refl _)) (by simp)
theorem KMap.lt {w : World} {B : Nat} {l : List Str} (h : KMap w B l) : B < w.heap.size := h.own.lt
theorem zeroLect (w : World) : (zeroValue 41).run Tryz.prog w = .ok (.agg #[.string ⟨#[]⟩, .slice none 0 0]) w := by kernel_rfl
theorem wpList_lookup_lect {P : Program} (w : World) {ops : Array Oper} {rest : List Oper} {o : Oper} {a : Act} {Q : Exit → Act → World → Prop} (hg : o.guard = none) (m x : Operand) (t : TypeId) (hop : o.op = Op.lookup t m x true)
    (k e : TypeId) (K : Keyed P k) (ht : P.underlying t = some (.map k e)) {z : Value} (hz : (zeroValue e).run P w = .ok z w) (hzd : aggL z = some (.agg [], [])) (b n : Nat) (D : DataW Unit)
    (hm : a.eval m = .map (some b)) (hown : w.ownsMap P k aggL b n D) (key : Value) (kl : Lit) (hx : a.eval x = key) (hkey : keyOf P k key = some kl)
    (hK : ∀ (x : ByteArray) (A1 : Option Addr) (n1 c1 : Nat), wpList P ops Q rest (a.put o.dst (.tuple #[.agg #[.string x, .slice A1 n1 c1], .bool (Maps.has D kl)])) w) :
    wpList P ops Q (o :: rest) a w :=
  wpList_lookup_own_ok w hg m x t hop k e K ht aggL hz (.agg []) [] hzd b n D hm hown key kl hx hkey (fun v ps hv => by
    obtain ⟨x, A1, n1, c1, rfl⟩ := aggL_inv hv
    exact hK x A1 n1 c1)
def addK (most : Nat) (l : List Str) (c : Str) : List Str × Int := if c ∈ l then (l, 11) else if l.length = most then (l, 2) else (l ++ [c], 0)
/-- What the function leaves behind. -/
def AddOutK (most : Nat) (l : List Str) (c : Str) (B : Nat) (w : World) (e : Ending) (w' : World) : Prop := e = .returned (.int .i64 (addK most l c).2) ∧ KMap w' B (addK most l c).1 ∧ w.grownBy w' (some B)
/-- What the function has captured. -/
structure DistIn (w : World) (KB AB MB M : Nat) : Prop where
  k : Box1 w KB 76 (.func (.func 38) #[] #[])
  a : Box1 w AB 109 (.map (some M))
  m : Box1 w MB 3 (.int .i64 16)
theorem DistIn.kept {w w' : World} {KB AB MB M : Nat} (h : DistIn w KB AB MB M) (hk : ∀ b, b = KB ∨ b = AB ∨ b = MB → w'.heap[b]? = w.heap[b]?) : DistIn w' KB AB MB M :=
  ⟨h.k.kept (hk _ (.inl rfl)), h.a.kept (hk _ (.inr (.inl rfl))), h.m.kept (hk _ (.inr (.inr rfl)))⟩
theorem DistIn.next {w w' : World} {KB AB MB M : Nat} (h : DistIn w KB AB MB M) (hb : Below w.heap.size w w') : DistIn w' KB AB MB M := ⟨h.k.next hb, h.a.next hb, h.m.next hb⟩

set_option maxHeartbeats 1000000 in
theorem codeOf_any (c : ByteArray) (A1 : Option Addr) (n1 c1 : Nat) (w : World) : Calls Tryz.prog 38 #[.agg #[.string c, .slice A1 n1 c1]] w fun e w' => e = .returned (.string c) ∧ Below w.heap.size w w' := by
  go_enter Tryz.func38, Tryz.ntmps38
  go_wp2
  go_ret
  exact ⟨rfl, (Below.refl _ _).alloc (Nat.le_refl _) _⟩

set_option maxHeartbeats 4000000 in
set_option maxRecDepth 100000 in
theorem dist_any (KB AB MB M : Nat) (l : List Str) (c : ByteArray) (A1 : Option Addr) (n1 c1 : Nat) (hl : l.length ≤ 16) (hc : c.size ≤ maxLen) (w : World) (hD : DistIn w KB AB MB M) (h : KMap w M l) :
    Calls Tryz.prog 57 #[.agg #[.string c, .slice A1 n1 c1], .pointer (some ⟨KB, 0, none⟩), .pointer (some ⟨AB, 0, none⟩), .pointer (some ⟨MB, 0, none⟩)] w (AddOutK 16 l (lst c) M w) := by
  have eg : ∀ args w, (callFunc 38 args).run Tryz.prog w = .ok (.enter 38 args) w := enters_of Tryz.func38 (by kernel_rfl) rfl
  unfold AddOutK addK
  have hkey : keyOf Tryz.prog 9 (.string c) = some (litS (lst c)) := keyOf_string_mk Tryz.underlying9 hc
  have hhas := has_setR l (lst c)
  have hBl := h.lt
  have hb1 := (Below.refl w.heap.size w).alloc (Nat.le_refl _) (.cells #[.string c, .slice A1 n1 c1] 41)
  have hX := Box2.new w (.string c) (.slice A1 n1 c1)
  obtain ⟨w1, hw1⟩ : ∃ w1, w.alloc (.cells #[.string c, .slice A1 n1 c1] 41) = w1 := ⟨_, rfl⟩
  rw [hw1] at hb1 hX
  have hD1 := hD.next hb1
  have hM1 := h.below hb1
  have hkl := hD.k.lt
  have hkc := hD.k.cell
  have hk1 : (w.alloc (.cells #[.string c, .slice A1 n1 c1] 41)).cell? ⟨KB, 0, none⟩ = some (.func (.func 38) #[] #[]) := Lib.cell?_alloc_some _ hkc
  have H1 := hid hM1
  have HD1 := hid hD1
  have HX := hid hX
  have HB1 := hid hb1
  have HKEY := hid hkey
  have HW1 := hid hw1
  clear hM1 hD1 hX hb1 hkey hw1 h hD hkl hkc
  by_cases hm : lst c ∈ l
  · rw [if_pos hm]
    rw [decide_eq_true hm] at hhas
    have HHAS := hid hhas
    clear hhas hm
    go_enter Tryz.func57, Tryz.ntmps57
    go_wp2_with fail
    rw [HW1.out]
    refine (codeOf_any c A1 n1 c1 w1).mono ?_
    rintro e w2 ⟨rfl, hb2⟩
    have hD2 := HD1.out.next hb2
    have hM2 := H1.out.below hb2
    have hX2 := HX.out.next hb2
    obtain ⟨x0, x1⟩ := hX2.cells
    have a0 := hD2.a.cell
    have m0 := hD2.m.cell
    have al := hD2.a.lt
    have ml := hD2.m.lt
    have xl := hX2.lt
    have HB2 := hid (HB1.out.trans (hb2.mono HB1.out.size))
    have H2 := hid hM2
    clear hb2 hD2 hM2 hX2 hk1
    obtain ⟨W2, hW2⟩ : ∃ W2, W2 = w2 := ⟨_, rfl⟩
    clear hW2
    go_wp2_with (first
      | (at_lookup; refine wpList_lookup_lect _ rfl _ _ 109 rfl 9 41 law9 Tryz.underlying109 (zeroLect _) (aggL_mk _ _ _ _) M l.length (setR l) rfl H2.out.own _ _ rfl HKEY.out ?_; intro u0 u1 u2 u3; rw [HHAS.out])
      | go_in)
    go_ret
    exact ⟨rfl, H2.out.below ((Below.refl _ _).alloc (Nat.le_refl _) _), grown_none (below_grown (HB2.out.trans ((Below.refl _ _).alloc HB2.out.size _)) (Nat.le_refl _))⟩
  · rw [if_neg hm]
    rw [decide_eq_false hm] at hhas
    have HHAS := hid hhas
    have hsz := H1.out.sz
    by_cases h16 : l.length = 16
    · rw [if_pos h16]
      rw [h16] at hsz
      have HSZ := hid hsz
      clear hhas hsz hm
      go_enter Tryz.func57, Tryz.ntmps57
      go_wp2_with fail
      rw [HW1.out]
      refine (codeOf_any c A1 n1 c1 w1).mono ?_
      rintro e w2 ⟨rfl, hb2⟩
      have hD2 := HD1.out.next hb2
      have hM2 := H1.out.below hb2
      have hX2 := HX.out.next hb2
      obtain ⟨x0, x1⟩ := hX2.cells
      have a0 := hD2.a.cell
      have m0 := hD2.m.cell
      have al := hD2.a.lt
      have ml := hD2.m.lt
      have xl := hX2.lt
      have HB2 := hid (HB1.out.trans (hb2.mono HB1.out.size))
      have H2 := hid hM2
      clear hb2 hD2 hM2 hX2 hk1
      obtain ⟨W2, hW2⟩ : ∃ W2, W2 = w2 := ⟨_, rfl⟩
      clear hW2
      go_wp2_with (first
        | (at_lookup; refine wpList_lookup_lect _ rfl _ _ 109 rfl 9 41 law9 Tryz.underlying109 (zeroLect _) (aggL_mk _ _ _ _) M l.length (setR l) rfl H2.out.own _ _ rfl HKEY.out ?_; intro u0 u1 u2 u3; rw [HHAS.out])
        | (at_len; refine wpList_len_own _ rfl _ 109 rfl 9 41 Tryz.underlying109 aggL M l.length (setR l) rfl (H2.out.own.alloc _) ?_; rw [HSZ.out])
        | go_in)
      go_ret
      exact ⟨rfl, H2.out.below ((Below.refl _ _).alloc (Nat.le_refl _) _), grown_none (below_grown (HB2.out.trans ((Below.refl _ _).alloc HB2.out.size _)) (Nat.le_refl _))⟩
    · rw [if_neg h16]
      have HSZ := hid hsz
      have h16z : ((l.length : Nat) : Int) ≠ 16 := by omega
      have h16b : (((l.length : Nat) : Int) == 16) = false := by simpa using h16z
      clear hhas hsz hm
      go_enter Tryz.func57, Tryz.ntmps57
      go_wp2_with fail
      rw [HW1.out]
      refine (codeOf_any c A1 n1 c1 w1).mono ?_
      rintro e w2 ⟨rfl, hb2⟩
      have hD2 := HD1.out.next hb2
      have hM2 := H1.out.below hb2
      have hX2 := HX.out.next hb2
      obtain ⟨x0, x1⟩ := hX2.cells
      have a0 := hD2.a.cell
      have m0 := hD2.m.cell
      have al := hD2.a.lt
      have ml := hD2.m.lt
      have xl := hX2.lt
      have HB2 := hid (HB1.out.trans (hb2.mono HB1.out.size))
      have H2 := hid hM2
      clear hb2 hD2 hM2 hX2 hk1
      obtain ⟨W2, hW2⟩ : ∃ W2, W2 = w2 := ⟨_, rfl⟩
      clear hW2
      go_wp2_with (first
        | (at_lookup; refine wpList_lookup_lect _ rfl _ _ 109 rfl 9 41 law9 Tryz.underlying109 (zeroLect _) (aggL_mk _ _ _ _) M l.length (setR l) rfl H2.out.own _ _ rfl HKEY.out ?_; intro u0 u1 u2 u3; rw [HHAS.out])
        | (at_len; refine wpList_len_own _ rfl _ 109 rfl 9 41 Tryz.underlying109 aggL M l.length (setR l) rfl (H2.out.own.alloc _) ?_; rw [HSZ.out])
        | (at_mapUpdate; refine wpList_mapUpdate_own _ rfl _ _ _ 109 rfl 9 41 law9 Tryz.underlying109 aggL M l.length (setR l) rfl (H2.out.own.alloc _) (by unfold maxLen; omega) _ _ _ rfl rfl HKEY.out _ [] (aggL_mk _ _ _ _) ?_; intro w3 hown3 hgrow3)
        | go_in)
      go_ret
      refine ⟨rfl, ⟨?_, ?_⟩, ?_⟩
      · rw [setR_snoc, List.length_append, List.length_singleton]
        exact hown3
      · rw [setR_snoc, Maps.size_put (H2.out.own.tidy law9), HHAS.out, HSZ.out, List.length_append, List.length_singleton]
        rfl
      · exact (grown_none (below_grown (HB2.out.trans ((Below.refl _ _).alloc HB2.out.size _)) (Nat.le_refl _))).andThen hgrow3 (fun j hj => .inr hj)

/-- What Distinct leaves behind. -/
def DistOut (w : World) (e : Ending) (w' : World) : Prop := ∃ KB AB MB M, e = .returned (.func (.func 57) #[] #[.pointer (some ⟨KB, 0, none⟩), .pointer (some ⟨AB, 0, none⟩), .pointer (some ⟨MB, 0, none⟩)]) ∧ DistIn w' KB AB MB M ∧ KMap w' M [] ∧
  w.heap.size ≤ M ∧ KB ≠ M ∧ AB ≠ M ∧ MB ≠ M ∧ Below w.heap.size w w'
set_option maxHeartbeats 1000000 in
theorem distinct_any (w : World) : Calls Tryz.prog 37 #[.int .i64 16, .func (.func 38) #[] #[]] w (DistOut w) := by
  have hmm := @run_makeMap Tryz.prog
  go_enter Tryz.func37, Tryz.ntmps37
  go_wp2
  go_ret
  refine ⟨w.heap.size + 1, w.heap.size + 1 + 1 + 1, w.heap.size, w.heap.size + 1 + 1, rfl, ?_⟩
  have e1 := Box1.new w 3 (.int .i64 16)
  have b1 := (Below.refl w.heap.size w).alloc (Nat.le_refl _) (.cells #[.int .i64 16] 3)
  have s1 : (w.alloc (.cells #[.int .i64 16] 3)).heap.size = w.heap.size + 1 := by simp
  generalize w.alloc (.cells #[.int .i64 16] 3) = w1 at e1 b1 s1 ⊢
  have e2 := Box1.new w1 76 (.func (.func 38) #[] #[])
  have b2 := (Below.refl w1.heap.size w1).alloc (Nat.le_refl _) (.cells #[.func (.func 38) #[] #[]] 76)
  have s2 : (w1.alloc (.cells #[.func (.func 38) #[] #[]] 76)).heap.size = w.heap.size + 1 + 1 := by simp [s1]
  rw [s1] at e2
  generalize w1.alloc (.cells #[.func (.func 38) #[] #[]] 76) = w2 at e2 b2 s2 ⊢
  have e3 := KMap.made w2
  have b3 := (Below.refl w2.heap.size w2).alloc (Nat.le_refl _) (.map #[] 0)
  have s3 : (w2.alloc (.map #[] 0)).heap.size = w.heap.size + 1 + 1 + 1 := by simp [s2]
  rw [s2] at e3
  generalize w2.alloc (.map #[] 0) = w3 at e3 b3 s3 ⊢
  have e4 := Box1.new w3 109 (.map (some (w.heap.size + 1 + 1)))
  have b4 := (Below.refl w3.heap.size w3).alloc (Nat.le_refl _) (.cells #[.map (some (w.heap.size + 1 + 1))] 109)
  rw [s3] at e4
  generalize w3.alloc (.cells #[.map (some (w.heap.size + 1 + 1))] 109) = w4 at e4 b4 ⊢
  refine ⟨⟨(e2.next b3).next b4, e4, ((e1.next b2).next b3).next b4⟩, e3.below b4, by omega, by omega, by omega, by omega, ?_⟩
  exact b1.trans ((b2.mono (by omega)).trans ((b3.mono (by omega)).trans (b4.mono (by omega))))
end Go.Proofs.YtpaejkhaiifgdaaGreatDoor.S11

set_option linter.unusedVariables false
namespace Go.Proofs.YtpaejkhaiifgdaaGreatDoor.S11
open Go Go.Proofs Go.RowKit Go.Lib Go.Proofs.YtpaejkhaiifgdaaGreatDoor

/-- The courses of a field. -/
def coursesM (x : Str) : List Str × Int := if (S3.listM x).2 ≠ 0 then ([], (S3.listM x).2) else if (S3.listM x).1.length = 0 then ([], 16) else if 8 < (S3.listM x).1.length then ([], 2) else ((S3.listM x).1, 0)
def setF (i : Nat) (x : Str) (r : CurrD) : CurrD × Int :=
  match i with
  | 0 => if S3.validC x = true then ((x, r.2), 0) else (([], r.2), 10)
  | 1 => ((r.1, (coursesM x).1), (coursesM x).2)
  | _ => (r, 0)
def zeroR : CurrD := ([], [])
def efold : List FieldD → Nat → CurrD → CurrD × Int × Int
  | [], _, r => (r, 0, 0)
  | f :: fs, i, r => if (setF i f.1 r).2 ≠ 0 then ((setF i f.1 r).1, f.2.1, (setF i f.1 r).2) else efold fs (i + 1) (setF i f.1 r).1
/-- A room out of the fields of a record; the column of the field in question; the error. -/
def entryM (fs : List FieldD) : CurrD × Int × Int := if fs.length ≠ 2 then (zeroR, 0, 9) else efold fs 0 zeroR
theorem efold_step (fs : List FieldD) (i : Nat) (h : i < fs.length) (r : CurrD) :
    efold (fs.drop i) i r = if (setF i fs[i].1 r).2 ≠ 0 then ((setF i fs[i].1 r).1, fs[i].2.1, (setF i fs[i].1 r).2) else efold (fs.drop (i + 1)) (i + 1) (setF i fs[i].1 r).1 := by
  rw [List.drop_eq_getElem_cons h, efold]
def addC (l : List CurrD) (c : Str) : Int := if c ∈ codesU l then 11 else if l.length = 16 then 2 else 0
/-- One record more. -/
def recM (st : List CurrD × List ProbD) (x : RecD) : List CurrD × List ProbD :=
  if (entryM x.2).2.2 ≠ 0 then (st.1, st.2 ++ [(x.1, (entryM x.2).2.1, (entryM x.2).2.2)])
  else if addC st.1 (entryM x.2).1.1 ≠ 0 then (st.1, st.2 ++ [(x.1, (entryM x.2).2.1, addC st.1 (entryM x.2).1.1)])
  else (st.1 ++ [(entryM x.2).1], st.2)
def recsM (l : List RecD) : List CurrD × List ProbD := l.foldl (recM) ([], [])
theorem recsM_take (l : List RecD) (i : Nat) (h : i < l.length) : recsM (l.take (i + 1)) = recM (recsM (l.take i)) l[i] := by
  unfold recsM
  rw [List.take_succ_eq_append_getElem h, List.foldl_append]
  rfl
theorem recM_room_len (st : List CurrD × List ProbD) (x : RecD) (h : st.1.length ≤ 16) : (recM st x).1.length ≤ 16 := by
  unfold recM
  split
  · exact h
  · split
    · exact h
    · rename_i h2
      unfold addC at h2
      by_cases h3 : (entryM x.2).1.1 ∈ codesU st.1
      · rw [if_pos h3] at h2; simp at h2
      · rw [if_neg h3] at h2
        by_cases h4 : st.1.length = 16
        · rw [if_pos h4] at h2; simp at h2
        · simp; omega
theorem recsM_len (l : List RecD) : (recsM l).1.length ≤ 16 := by
  unfold recsM
  have : ∀ (l : List RecD) (st : List CurrD × List ProbD), st.1.length ≤ 16 → (l.foldl (recM) st).1.length ≤ 16 := by
    intro l
    induction l with
    | nil => exact fun st h => h
    | cons x r ih => exact fun st h => ih _ (recM_room_len st x h)
  exact this l _ (by simp)
theorem recsM_probs (l : List RecD) : (recsM l).2.length ≤ l.length := by
  unfold recsM
  have : ∀ (l : List RecD) (st : List CurrD × List ProbD), (l.foldl (recM) st).2.length ≤ st.2.length + l.length := by
    intro l
    induction l with
    | nil => exact fun st => Nat.le_refl _
    | cons x r ih =>
      intro st
      rw [List.foldl_cons]
      refine Nat.le_trans (ih _) ?_
      have : (recM st x).2.length ≤ st.2.length + 1 := by
        unfold recM
        split
        · simp
        · split <;> simp
      simp
      omega
  simpa using this l ([], [])
/-- The codes of the rooms that were read, in the map's words. -/
theorem addM_codes (l : List CurrD) (c : Str) : (addK 16 (codesU l) c).2 = addC l c ∧ (addK 16 (codesU l) c).1 = if addC l c = 0 then codesU l ++ [c] else codesU l := by
  unfold addK addC
  have e : (codesU l).length = l.length := by simp [codesU]
  rw [e]
  by_cases h : c ∈ codesU l
  · rw [if_pos h, if_pos h]; simp
  · rw [if_neg h, if_neg h]
    by_cases h2 : l.length = 16
    · rw [if_pos h2, if_pos h2]; simp
    · rw [if_neg h2, if_neg h2]; simp
end Go.Proofs.YtpaejkhaiifgdaaGreatDoor.S11

set_option linter.unusedVariables false
namespace Go.Proofs.YtpaejkhaiifgdaaGreatDoor
open Go Go.Proofs Go.RowKit Go.Lib

theorem results_ctt {fn : Func} {p u v : Tmp} {A : TypeId} (h : fn.results = #[.cell p A, .tmp u, .tmp v]) (tmps : Array Value) (P : Program) (w : World) (a : Addr) (va vc vd : Value)
    (ha : tmps.getD p undef = .pointer (some a)) (hc : tmps.getD u undef = vc) (hd : tmps.getD v undef = vd)
    (hla : (loadVar A a).run P w = .ok va w) : (results fn tmps).run P w = .ok (.tuple #[va, vc, vd]) w := by
  rw [Array.getD_eq_getD_getElem?] at ha hc hd
  simp only [results, h]
  simp [Result.andThen, ha, hc, hd, hla, asAddr]
theorem grown_of_below {w w' : World} (h : Below w.heap.size w w') : w.grownBy w' none := ⟨h.os, h.tape, h.output, h.size, fun k hk _ => h.block k hk⟩
theorem put_grown {W w2 : World} (hb : Below W.heap.size W w2) (R j : Nat) (v : Value) : W.grownBy (w2.setCell ⟨R, j, none⟩ v) (some R) :=
  ((grown_of_below hb).but (some R)).trans ⟨by simp [World.setCell], by simp [World.setCell], by simp [World.setCell], by simp [World.setCell], fun k _ hk => Below.heap_setCell w2 ⟨R, j, none⟩ v k (fun e => hk (by rw [show k = R from e]))⟩
end Go.Proofs.YtpaejkhaiifgdaaGreatDoor

set_option linter.unusedVariables false
namespace Go.Proofs.YtpaejkhaiifgdaaGreatDoor.S11
open Go Go.Proofs Go.RowKit Go.Lib Go.Proofs.YtpaejkhaiifgdaaGreatDoor

/-- What a call that reads field i of the curriculum in block R leaves behind. -/
def FieldOut (i : Nat) (x : Str) (r : CurrD) (R : Nat) (w : World) (e : Ending) (w' : World) : Prop :=
  e = .returned (.int .i64 (setF i x r).2) ∧ (∃ q : CurrA, Box2 w' R (.string (ba (setF i x r).1.1)) (.slice q.1 (setF i x r).1.2.length q.2) ∧ CurrIn w' (fun k => R < k ∧ k < w'.heap.size) (setF i x r).1 q) ∧ w.grownBy w' (some R)
/-- What a call that reads an entry leaves behind. -/
def EntryOut (o : CurrD × Int × Int) (w : World) (e : Ending) (w' : World) : Prop :=
  (∃ q, e = .returned (.tuple #[currV o.1 q, .int .i64 o.2.1, .int .i64 o.2.2]) ∧ CurrIn w' (fun k => w.heap.size ≤ k ∧ k < w'.heap.size) o.1 q) ∧ Below w.heap.size w w'
theorem load2 {w : World} {k : Nat} {v0 v1 : Value} (h : w.cell? ⟨k, 0, none⟩ = some v0 ∧ w.cell? ⟨k, 1, none⟩ = some v1) : (loadVar 41 ⟨k, 0, none⟩).run Tryz.prog w = .ok (.agg #[v0, v1]) w := by
  obtain ⟨h0, h1⟩ := h
  simp [loadVar, go_sem, h0, h1]
theorem Box2.set {w : World} {B : Nat} {v0 v1 : Value} (h : Box2 w B v0 v1) : ∀ (u0 u1 : Value), Box2 ((w.setCell ⟨B, 0, none⟩ u0).setCell ⟨B, 1, none⟩ u1) B u0 u1 := fun u0 u1 => by
  have h1 := heap_setCell_same w B 0 _ _ u0 h.h
  have h2 := heap_setCell_same _ B 1 _ _ u1 h1
  refine ⟨?_⟩
  rw [h2]
  rfl
theorem set2_grown (w : World) (B : Nat) (u0 u1 : Value) : w.grownBy ((w.setCell ⟨B, 0, none⟩ u0).setCell ⟨B, 1, none⟩ u1) (some B) := by
  have g : ∀ (w : World) (o : Nat) (v : Value), w.grownBy (w.setCell ⟨B, o, none⟩ v) (some B) := fun w o v => ⟨by simp [World.setCell], by simp [World.setCell], by simp [World.setCell], by simp [World.setCell], fun k _ hk => Below.heap_setCell w ⟨B, o, none⟩ v k (fun e => hk (by rw [show k = B from e]))⟩
  exact (g w 0 u0).andThen (g _ 1 u1) (fun j hj => .inr hj)
/-- All results stored. -/
theorem entry_end {w W : World} {a : Act} {r : CurrD} {q : CurrA} {c e : Int} {o : CurrD × Int × Int} (hp : a.tmps.getD 6 undef = .pointer (some ⟨w.heap.size, 0, none⟩)) (hc : a.tmps.getD 7 undef = .int .i64 c) (he : a.tmps.getD 8 undef = .int .i64 e) (hd : a.defers = [])
    (hx : Box2 W w.heap.size (.string (ba r.1)) (.slice q.1 r.2.length q.2)) (hr : CurrIn W (fun k => w.heap.size < k ∧ k < W.heap.size) r q) (hb : Below w.heap.size w W) (ho : o = (r, c, e)) :
    bodyPost Tryz.prog Tryz.f54 (EntryOut o w) Exit.ret a W := by
  subst ho
  refine bodyPost_ret (v := .tuple #[currV r q, .int .i64 c, .int .i64 e]) (results_ctt rfl _ _ _ ⟨w.heap.size, 0, none⟩ _ _ _ hp hc he ?_) hd ⟨⟨q, rfl, hr.mono (fun k hk => ⟨Nat.le_of_lt hk.1, hk.2⟩)⟩, hb⟩
  unfold currV
  exact load2 hx.cells
theorem Box2.put0 {w : World} {B : Nat} {v0 v1 : Value} (h : Box2 w B v0 v1) (u : Value) : Box2 (w.setCell ⟨B, 0, none⟩ u) B u v1 := ⟨by rw [heap_setCell_same w B 0 _ _ u h.h]; rfl⟩
theorem Box2.put1 {w : World} {B : Nat} {v0 v1 : Value} (h : Box2 w B v0 v1) (u : Value) : Box2 (w.setCell ⟨B, 1, none⟩ u) B v0 u := ⟨by rw [heap_setCell_same w B 1 _ _ u h.h]; rfl⟩
theorem two_put {w W : World} {r : CurrD} {q : CurrA} (hx : Box2 W w.heap.size (.string (ba r.1)) (.slice q.1 r.2.length q.2)) (hr : CurrIn W (fun k => w.heap.size < k ∧ k < W.heap.size) r q) (hb : Below w.heap.size w W) {W5 : World}
    (h5 : W5 = (W.setCell ⟨w.heap.size, 0, none⟩ (.string (ba r.1))).setCell ⟨w.heap.size, 1, none⟩ (.slice q.1 r.2.length q.2)) :
    Box2 W5 w.heap.size (.string (ba r.1)) (.slice q.1 r.2.length q.2) ∧ CurrIn W5 (fun k => w.heap.size < k ∧ k < W5.heap.size) r q ∧ Below w.heap.size w W5 := by
  have hx5 := Box2.set hx (.string (ba r.1)) (.slice q.1 r.2.length q.2)
  have hg := set2_grown W w.heap.size (.string (ba r.1)) (.slice q.1 r.2.length q.2)
  rw [← h5] at hx5 hg
  have hs := hg.size
  have hl := hx.lt
  exact ⟨hx5, (hr.kept (fun k hk => hg.block k hk.2 (fun e => by injection e; omega))).mono (fun k hk => ⟨hk.1, by omega⟩), hb.grown hg (by omega) (fun k e => by injection e; omega)⟩
theorem CurrIn.past {W w2 : World} {R j : Nat} {v : Value} {r : CurrD} {q : CurrA} (h : CurrIn W (fun k => R < k ∧ k < W.heap.size) r q) (hb : Below W.heap.size W w2) : CurrIn (w2.setCell ⟨R, j, none⟩ v) (fun k => R < k ∧ k < (w2.setCell ⟨R, j, none⟩ v).heap.size) r q := by
  have hg := put_grown hb R j v
  have hs := hg.size
  exact (h.kept (fun k hk => hg.block k hk.2 (fun e => by injection e; omega))).mono (fun k hk => ⟨hk.1, by omega⟩)
end Go.Proofs.YtpaejkhaiifgdaaGreatDoor.S11

set_option linter.unusedVariables false
namespace Go.Proofs.YtpaejkhaiifgdaaGreatDoor
open Go Go.Proofs Go.RowKit Go.Lib

theorem own_lt {W : World} {B e z n : Nat} {v : Value} {xs : List Value} (h : W.ownsRow B e z v n xs) : ∀ k, v.ownBlock = some k → B ≤ k ∧ k < W.heap.size := World.ownsRow.lt h
theorem row_kindT {w : World} {B e z k : Nat} {v : Value} {xs : List Value} (h : w.ownsRow B e z v k xs) (g : Nat) (hg : v.ownBlock = some g) : ∃ c, w.heap[g]? = some (.cells c e (0, 0)) := by
  rcases h.2 with ⟨rfl, _⟩ | ⟨g', cap, cur, rfl, _, hh, _⟩
  · simp [Value.ownBlock] at hg
  · simp only [Value.ownBlock, Option.some.injEq] at hg
    subst hg
    exact ⟨cur, hh⟩
theorem kinds_ne {W : World} {B B' e e' z z' n n' : Nat} {v v' : Value} {xs xs' : List Value} (h : W.ownsRow B e z v n xs) (h' : W.ownsRow B' e' z' v' n' xs') (hne : e ≠ e') : v.ownBlock = none ∨ v.ownBlock ≠ v'.ownBlock := by
  cases hv : v.ownBlock with
  | none => exact .inl rfl
  | some g =>
    refine .inr fun e0 => ?_
    obtain ⟨c, hc⟩ := row_kindT h g hv
    obtain ⟨c', hc'⟩ := row_kindT h' g e0.symm
    rw [hc] at hc'
    injection hc' with h1
    injection h1 with _ h2
    exact hne h2
theorem four_new (w : World) (a b c d : Int) (T : TypeId) : ∀ (j : Nat) (u : Value), (timeVs (a, b, c, d))[j]? = some u → (w.alloc (.cells #[.int .i64 a, .int .i64 b, .int .i64 c, .int .i64 d] T)).cell? ((⟨w.heap.size, 0, none⟩ : Addr).add j) = some u := by
  intro j u h
  have k := Box4.new w a b c d T
  rw [Addr.add_lit]
  match j, h with
  | 0, h => exact k.c0.trans h
  | 1, h => exact k.c1.trans h
  | 2, h => exact k.c2.trans h
  | 3, h => exact k.c3.trans h
  | j + 4, h => simp [timeVs] at h
theorem times_one (t : TimeD) : ∀ u ∈ timeVs t, u.oneCell' = true := fun u hu => timeVals_one [t] u (by simpa [timeVals] using hu)
end Go.Proofs.YtpaejkhaiifgdaaGreatDoor

