/-
  The students that are known; the function that acceptor of requests returns. Conditions: the maps are the call's own; the texts fit into memory.
-/
import Derived.Test.YtlgmanbilaminaaGreatDoorXN01
import Derived.Test.YtlgmanbilaminaaGreatDoorXN02
import Derived.Test.YtlgmanbilaminaaGreatDoorXN03
import Derived.Test.YtlgmanbilaminaaGreatDoorXN04
import Derived.Test.YtlgmanbilaminaaGreatDoorXN05
import Derived.Test.YtlgmanbilaminaaGreatDoorXN06
import Derived.Test.YtlgmanbilaminaaGreatDoorXN07
import Derived.Test.YtlgmanbilaminaaGreatDoorXN08
import Derived.Test.YtlgmanbilaminaaGreatDoorXN11
import Derived.Test.YtlgmanbilaminaaGreatDoorProg
import Derived.WalkKit
import Derived.WalkSpells
import Derived.WalkLawsBesides
import Derived.Lib.Hide
import Derived.Deep.QuietTactic
import Derived.BigQuiet
import Derived.Laws.Rows
import Derived.OwnWalk
import Derived.Lib.BufferWrite
import Derived.Lib.UnsafeStr
import Derived.Laws.IdiomStrings
import Derived.Laws.BytesArg
import Derived.Laws.BytesString
import Derived.Laws.OwnMore
import Derived.Lib.IndexLaws
import Derived.Lib.ItoaNum
import Derived.Lib.Atoi
import Derived.Lib.Bytealg
import Derived.Maps.OwnSet
import Derived.Maps.Range
import Derived.Shelf.Abstract
import Derived.DeepKeys4
import Derived.Handy
import Derived.RangeFuncNested
import Derived.RangeFuncBound
import Derived.RangeFuncCalls
import Derived.RangeFuncLeaves
import Derived.Shelf.RegionOpen
import Derived.OwnWalkIn
import Derived.Lib.SlTrimSet
import Derived.Shelf.Strings.Builder1
import Derived.Shelf.Strings.Builder2
import Derived.Shelf.Strings.OnBuilder
import Derived.Shelf.Strings.Trim
import Derived.Shelf.Small.Utf8
import Derived.Shelf.Small.Bits
import Derived.Shelf.Small.Strs
import Derived.Shelf.Small.Wraps
import Derived.Shelf.Strings.BuilderF
import Derived.Shelf.Strings.BuilderK
import Derived.Shelf.Strings.Builder2Cap
import Derived.Shelf.Strconv.Atoi
import Derived.Shelf.Strconv.Itoa0
import Derived.Shelf.Strconv.Itoa1
import Derived.Shelf.LaysM
import Derived.Shelf.Strconv.Itoa2
import Derived.Shelf.Strconv.Itoa3
import Derived.Shelf.Strconv.AtoiErrFast
import Derived.Shelf.Strconv.ParseIntEmpty
import Derived.Shelf.Strconv.AtoiFail
import Derived.Shelf.Strconv.Clone
import Derived.Shelf.Strconv.SyntaxError
import Derived.Shelf.LaysC
import Derived.Shelf.Strconv.ToError
import Derived.Shelf.Strconv.AtoiErr
import Derived.Shelf.Strings.Search1
import Derived.Shelf.Strings.Search2
import Derived.Shelf.Strings.Search3
import Derived.Shelf.Strings.Cut
import Derived.Shelf.Strings.Shaped
import Derived.Shelf.Strings.Prefix
import Derived.Shelf.Strings.Runes
import Derived.Shelf.Strings.AsciiSet
import Derived.Shelf.Bits.Mul64
import Derived.Shelf.Strings.Repeat
import Derived.Shelf.Unicode.DecodeSlow
import Derived.Shelf.Strings.BuilderCap
import Derived.Shelf.Slices.Turned
import Derived.Ground.Names2Prog
import Derived.Shelf.Slices.Clone
import Derived.Ground.SlsfProg
import Derived.Shelf.SlSortCmp.Insertion
import Derived.Shelf.SlSortCmp.SiftDown1
import Derived.Shelf.SlSortCmp.HeapSort1
import Derived.Shelf.SlSortCmp.Insertion1
import Derived.Shelf.SlSortCmp.Median1
import Derived.Shelf.SlSortCmp.Pivot1
import Derived.Shelf.SlSortCmp.ReverseRange1
import Derived.Shelf.SlSortCmp.PartialInsertion1
import Derived.Shelf.SlSortCmp.PartitionEqual1
import Derived.Shelf.SlSortCmp.Partition1
import Derived.Shelf.SlSortCmp.Pdq1
import Derived.Shelf.SlSortCmp.Whole1
import Derived.Shelf.SlSortCmp.NoneTotal
import Derived.Shelf.Strings.SlTrimAscii
import Derived.Lib.AtoiErrMem
import Derived.Laws.ResultCell
import Derived.RegionTactic
import Derived.Lib.Repeat
import Derived.Deep.RegionHeld3
import Derived.Lib.SlicesS
import Derived.TacticsInMore
import Derived.LoopNIn
import Derived.LoopIn
import Derived.Laws.BitsAllLaws
import Derived.Laws.BitsLemmas
import Derived.Deep.MidRow
import Derived.Deep.DeepCutAuto
import Derived.Lib.Join
import Derived.Laws.Concat
import Derived.Maps.OwnOps
import Derived.Maps.Ext
set_option linter.unusedVariables false
namespace Go.Proofs.YtlgmanbilaminaaGreatDoor.S12
open Go Go.Proofs Go.RowKit Go.Lib Go.Proofs.YtlgmanbilaminaaGreatDoor
open Go.Maps (Keyed string_keyed)
open Go.WideMaps (keyOf_string_mk)
theorem snocInd {α : Type} {p : List α → Prop} (h0 : p []) (h1 : ∀ l x, p l → p (l ++ [x])) (l : List α) : p l := by
  have : ∀ l : List α, p l.reverse := by
    intro l
    induction l with
    | nil => exact h0
    | cons x l ih => rw [List.reverse_cons]; exact h1 _ _ ih
  simpa using this l.reverse
def boolE : Value → Option (DataW Unit × List MemPlace)
  | .bool b => some (.lit (.bool b), [])
  | _ => none
theorem boolE_inv {v : Value} {z : DataW Unit × List MemPlace} (h : boolE v = some z) : ∃ b, v = .bool b ∧ z = (.lit (.bool b), []) := by
  unfold boolE at h
  split at h
  · rename_i b
    exact ⟨b, rfl, by injection h with h; exact h.symm⟩
  · cases h
def setB (l : List Str) : DataW Unit := Maps.setOf (.lit (.bool true)) (l.map litS)
theorem has_setB (l : List Str) (c : Str) : Maps.has (setB l) (litS c) = decide (c ∈ l) := by
  unfold setB
  rw [Maps.has_setOf _ _ _ (fun x hx => by obtain ⟨s, _, rfl⟩ := List.mem_map.1 hx; exact keyLit s)]
  rw [Bool.eq_iff_iff, List.any_eq_true, decide_eq_true_eq]
  constructor
  · rintro ⟨x, hx, hk⟩
    obtain ⟨s, hs, rfl⟩ := List.mem_map.1 hx
    rw [sameKey_litS, decide_eq_true_eq] at hk
    subst hk
    exact hs
  · intro h
    exact ⟨litS c, List.mem_map.2 ⟨c, h, rfl⟩, by rw [sameKey_litS, decide_eq_true rfl]⟩
theorem setB_snoc (l : List Str) (c : Str) : setB (l ++ [c]) = (setB l).put (litS c) (.lit (.bool true)) := by
  unfold setB
  rw [List.map_append, List.map_singleton, Maps.setOf_snoc]
theorem isMap_setB (l : List Str) : Maps.IsMap (setB l) := (Maps.tidy_setOf _ _ (fun x hx => by obtain ⟨s, _, rfl⟩ := List.mem_map.1 hx; exact keyLit s)).isMap
theorem at_setB : ∀ (l : List Str) (c : Str), (setB l).atKey (litS c) (.lit (.bool false)) = .lit (.bool (decide (c ∈ l))) := by
  intro l c
  refine snocInd (p := fun l => (setB l).atKey (litS c) (.lit (.bool false)) = .lit (.bool (decide (c ∈ l)))) ?_ (fun l s ih => ?_) l
  · rw [Maps.atKey_of_not_has (by rw [has_setB]; simp)]
    simp
  · rw [setB_snoc]
    by_cases h : c = s
    · subst h
      rw [Maps.atKey_put_same (isMap_setB l) (keyLit c)]
      simp
    · rw [Maps.atKey_put_other (fun e => h (by unfold litS at e; injection e))]
      rw [ih]
      simp [h]
structure KStud (w : World) (B n : Nat) (l : List Str) : Prop where
  own : w.ownsMap Tryz.prog 9 boolE B n (setB l)
  sz : Maps.size (setB l) = l.length
theorem KStud.made (w : World) : KStud (w.alloc (.map #[] 0)) w.heap.size 0 [] := ⟨World.ownsMap_made _ _ _ _, rfl⟩
theorem KStud.kept {w w' : World} {B n : Nat} {l : List Str} {row : Option Nat} (h : KStud w B n l) (hg : w.grownBy w' row) (hne : some B ≠ row) : KStud w' B n l := ⟨h.own.kept hg hne, h.sz⟩
theorem KStud.below {w w' : World} {B n : Nat} {l : List Str} (h : KStud w B n l) (hb : Below w.heap.size w w') : KStud w' B n l := h.kept (below_grown hb (Nat.le_refl _)) (by simp)
theorem KStud.mono {w : World} {B n n' : Nat} {l : List Str} (h : KStud w B n l) (hn : n ≤ n') : KStud w B n' l := ⟨h.own.mono hn, h.sz⟩
theorem KStud.lt {w : World} {B n : Nat} {l : List Str} (h : KStud w B n l) : B < w.heap.size := h.own.lt
theorem KStud.put {w w' : World} {B n : Nat} {l : List Str} {s : Str} (h : KStud w B n l) (ho : w'.ownsMap Tryz.prog 9 boolE B (n + 1) ((setB l).put (litS s) (.lit (.bool true)))) : KStud w' B (n + 1) (addS l s) := by
  unfold addS
  by_cases hs : s ∈ l
  · rw [if_pos hs]
    have e : (setB l).put (litS s) (.lit (.bool true)) = setB l := by
      refine Maps.ext (ho.canon law9) (h.own.canon law9) (fun k => ?_) (fun k z hk => ?_)
      · by_cases hk : k = litS s
        · subst hk
          rw [Maps.has_put_same (isMap_setB l) (keyLit s), has_setB, decide_eq_true hs]
        · rw [Maps.has_put_other hk]
      · by_cases hk : k = litS s
        · subst hk
          rw [Maps.atKey_put_same (isMap_setB l) (keyLit s)]
          exact (at_true l s hs z).symm
        · rw [Maps.atKey_put_other hk]
    rw [e] at ho
    exact ⟨ho, h.sz⟩
  · rw [if_neg hs]
    refine ⟨by rw [setB_snoc]; exact ho, ?_⟩
    rw [setB_snoc, Maps.size_put (h.own.tidy law9), has_setB, decide_eq_false hs, h.sz, List.length_append, List.length_singleton]
    rfl
where
  at_true : ∀ (l : List Str) (s : Str), s ∈ l → ∀ z : DataW Unit, (setB l).atKey (litS s) z = .lit (.bool true) := by
    intro l s
    refine snocInd (p := fun l => s ∈ l → ∀ z : DataW Unit, (setB l).atKey (litS s) z = .lit (.bool true)) (fun h => by simp at h) (fun l t ih => ?_) l
    · intro h z
      rw [setB_snoc]
      by_cases e : s = t
      · subst e
        rw [Maps.atKey_put_same (isMap_setB l) (keyLit s)]
      · rw [Maps.atKey_put_other (fun k => e (by unfold litS at k; injection k))]
        exact ih (by simpa [e] using h) z
theorem wpList_lookup_known {P : Program} (w : World) {ops : Array Oper} {rest : List Oper} {o : Oper} {a : Act} {Q : Exit → Act → World → Prop} (hg : o.guard = none) (m x : Operand) (t : TypeId) (hop : o.op = Op.lookup t m x false)
    (k e : TypeId) (K : Keyed P k) (ht : P.underlying t = some (.map k e)) (hz : (zeroValue e).run P w = .ok (.bool false) w) (b n : Nat) (D : DataW Unit)
    (hm : a.eval m = .map (some b)) (hown : w.ownsMap P k boolE b n D) (key : Value) (kl : Lit) (hx : a.eval x = key) (hkey : keyOf P k key = some kl) (r : Bool) (hat : D.atKey kl (.lit (.bool false)) = .lit (.bool r))
    (hK : wpList P ops Q rest (a.put o.dst (.bool r)) w) :
    wpList P ops Q (o :: rest) a w := by
  refine wpList_plain hg fun K' hK' => ?_
  obtain ⟨v, ps, hrun, hv⟩ := hown.lookup K ht hz (zd := .lit (.bool false)) (zp := []) rfl hkey
  obtain ⟨b', rfl, e1⟩ := boolE_inv hv
  rw [hat] at e1
  injection e1 with e1 _
  injection e1 with e1
  injection e1 with e1
  subst e1
  unfold Oper.wp
  simp [execOp, hop, hm, hx, hrun, Result.andThen]
  exact hK' _ _ hK
theorem zeroBool (w : World) : (zeroValue 4).run Tryz.prog w = .ok (.bool false) w := by kernel_rfl
structure Gr2 (M N : Nat) (w w' : World) : Prop where
  os : w'.os = w.os
  tape : w'.tape = w.tape
  output : w'.output = w.output
  size : w.heap.size ≤ w'.heap.size
  block : ∀ k, k < w.heap.size → k ≠ M → k ≠ N → w'.heap[k]? = w.heap[k]?
theorem Gr2.refl (M N : Nat) (w : World) : Gr2 M N w w := ⟨rfl, rfl, rfl, Nat.le_refl _, fun _ _ _ _ => rfl⟩
theorem Gr2.trans {M N : Nat} {a b c : World} (h : Gr2 M N a b) (k : Gr2 M N b c) : Gr2 M N a c :=
  ⟨k.os.trans h.os, k.tape.trans h.tape, k.output.trans h.output, Nat.le_trans h.size k.size, fun j hj h1 h2 => (k.block j (Nat.lt_of_lt_of_le hj h.size) h1 h2).trans (h.block j hj h1 h2)⟩
theorem Gr2.of {M N : Nat} {a b : World} {row : Option Nat} (h : a.grownBy b row) (hr : ∀ j, row = some j → j = M ∨ j = N ∨ a.heap.size ≤ j) : Gr2 M N a b :=
  ⟨h.os, h.tape, h.output, h.size, fun k hk h1 h2 => h.block k hk (fun e => by
    rcases hr k e.symm with rfl | rfl | h3
    · exact h1 rfl
    · exact h2 rfl
    · omega)⟩
theorem Gr2.below {M N : Nat} {a b : World} (h : Below a.heap.size a b) : Gr2 M N a b := ⟨h.os, h.tape, h.output, h.size, fun k hk _ _ => h.block k hk⟩
theorem Gr2.under {M N B : Nat} {w w' : World} (h : Gr2 M N w w') (hB : B ≤ w.heap.size) (h1 : B ≤ M) (h2 : B ≤ N) : Below B w w' :=
  ⟨h.os, h.tape, h.output, h.size, fun k hk => h.block k (by omega) (by omega) (by omega)⟩
theorem Gr2.row {M N : Nat} {w w' : World} (h : Gr2 M N w w') {B e z n : Nat} {v : Value} {xs : List Value} (ho : w.ownsRow B e z v n xs) (h1 : v.ownBlock ≠ some M) (h2 : v.ownBlock ≠ some N) : w'.ownsRow B e z v n xs := by
  refine ⟨ho.1, ?_⟩
  rcases ho.2 with hn | ⟨g, cap, cur, rfl, hb, hgg, rest⟩
  · exact .inl hn
  · refine .inr ⟨g, cap, cur, rfl, hb, ?_, rest⟩
    rw [h.block g (Array.getElem?_eq_some_iff.1 hgg).1 (fun e => h1 (by simp [Value.ownBlock, e])) (fun e => h2 (by simp [Value.ownBlock, e]))]
    exact hgg
structure Cap where
  NB : Nat
  WB : Nat
  KB : Nat
  AB : Nat
  MB : Nat
  M : Nat
  N : Nat
def Cap.dist (c : Cap) : Value := .func (.func 92) #[] #[.pointer (some ⟨c.KB, 0, none⟩), .pointer (some ⟨c.AB, 0, none⟩), .pointer (some ⟨c.MB, 0, none⟩)]
def Cap.fn (c : Cap) : Value := .func (.func 69) #[] #[.pointer (some ⟨c.NB, 0, none⟩), .pointer (some ⟨c.WB, 0, none⟩)]
structure CapIn (w : World) (c : Cap) : Prop where
  d : DistIn w c.KB c.AB c.MB c.M
  n : Box1 w c.NB 81 (.map (some c.N))
  f : Box1 w c.WB 71 c.dist
  apart : c.M ≠ c.N ∧ c.KB ≠ c.M ∧ c.AB ≠ c.M ∧ c.MB ≠ c.M ∧ c.NB ≠ c.M ∧ c.WB ≠ c.M ∧ c.KB ≠ c.N ∧ c.AB ≠ c.N ∧ c.MB ≠ c.N ∧ c.NB ≠ c.N ∧ c.WB ≠ c.N
theorem CapIn.kept {w w' : World} {c : Cap} (h : CapIn w c) (hg : Gr2 c.M c.N w w') : CapIn w' c := by
  obtain ⟨a1, a2, a3, a4, a5, a6, a7, a8, a9, a10, a11⟩ := h.apart
  refine ⟨h.d.kept (fun b hb => ?_), h.n.kept (hg.block _ h.n.lt a5 a10), h.f.kept (hg.block _ h.f.lt a6 a11), h.apart⟩
  rcases hb with rfl | rfl | rfl
  · exact hg.block _ h.d.k.lt a2 a7
  · exact hg.block _ h.d.a.lt a3 a8
  · exact hg.block _ h.d.m.lt a4 a9
structure Acc (w : World) (c : Cap) (pre : List ReqD) : Prop where
  m : KMap w c.M (wishes pre)
  s : KStud w c.N pre.length (studs pre)
theorem Acc.below {w w' : World} {c : Cap} {pre : List ReqD} (h : Acc w c pre) (hb : Below w.heap.size w w') : Acc w' c pre := ⟨h.m.below hb, h.s.below hb⟩
def preA (pre : List ReqD) (r : ReqD) : List ReqD := if accM pre r = 0 then pre ++ [r] else pre
def AccOut (c : Cap) (pre : List ReqD) (r : ReqD) (w : World) (e : Ending) (w' : World) : Prop := e = .returned (.int .i64 (accM pre r)) ∧ Acc w' c (preA pre r) ∧ Gr2 c.M c.N w w'
theorem accM_add (pre : List ReqD) (r : ReqD) (h : ¬ (r.s ∉ studs pre ∧ (studs pre).length = 64)) : accM pre r = (addW (wishes pre) (r.s, r.c)).2 ∧ ((addW (wishes pre) (r.s, r.c)).1 = wishes (preA pre r)) := by
  have e : (wishes pre).length = pre.length := by simp [wishes]
  have e1 : accM pre r = (addW (wishes pre) (r.s, r.c)).2 := by
    unfold accM addW
    rw [if_neg h, e]
    split
    · rfl
    · split <;> rfl
  refine ⟨e1, ?_⟩
  unfold preA
  rw [e1]
  unfold addW
  rw [e]
  split
  · simp
  · split
    · simp
    · simp [wishes]
set_option maxHeartbeats 16000000 in
set_option maxRecDepth 100000 in
theorem accept_any (c : Cap) (pre : List ReqD) (r : ReqD) (q : ReqA) (hp : Few pre) (hs : r.s.length ≤ 4294967295) (hc : r.c.length ≤ 4294967295) (w : World) (hC : CapIn w c) (hA : Acc w c pre) :
    Calls Tryz.prog 69 #[reqV r q, .pointer (some ⟨c.NB, 0, none⟩), .pointer (some ⟨c.WB, 0, none⟩)] w (AccOut c pre r w) := by
  have ed : ∀ args w, (callFunc 92 args).run Tryz.prog w = .ok (.enter 92 args) w := enters_of Tryz.func92 (by kernel_rfl) rfl
  obtain ⟨NB, WB, KB, AB, MB, M, N⟩ := c
  obtain ⟨s, co, p, l⟩ := r
  unfold AccOut reqV
  dsimp only at hs hc ⊢
  have hacc := accM_add pre ⟨s, co, p, l⟩
  have hprem : ∀ h : accM pre ⟨s, co, p, l⟩ ≠ 0, preA pre ⟨s, co, p, l⟩ = pre := fun h => if_neg h
  have hpre0 : ∀ h : accM pre ⟨s, co, p, l⟩ = 0, preA pre ⟨s, co, p, l⟩ = pre ++ [⟨s, co, p, l⟩] := fun h => if_pos h
  have h64 : s ∉ studs pre → (studs pre).length = 64 → accM pre ⟨s, co, p, l⟩ = 2 := fun h1 h2 => if_pos ⟨h1, h2⟩
  have hsz : (ba s).size ≤ maxLen := by rw [Lib.size_eq]; show s.length ≤ maxLen; unfold maxLen; omega
  have hcz : (ba co).size ≤ maxLen := by rw [Lib.size_eq]; show co.length ≤ maxLen; unfold maxLen; omega
  have hkey : keyOf Tryz.prog 9 (.string (ba s)) = some (litS s) := by have := keyOf_string_mk Tryz.underlying9 hsz; exact this
  have hat := at_setB (studs pre) s
  have hsn := studs_snoc pre ⟨s, co, p, l⟩
  dsimp only at hacc hsn
  have hb1 := (Below.refl w.heap.size w).alloc (Nat.le_refl _) (.cells #[.string (ba s), .string (ba co), .int .i64 p, .slice q.1 l.length q.2] 61)
  have hX := Box4.new w (.string (ba s)) (.string (ba co)) (.int .i64 p) (.slice q.1 l.length q.2)
  have hdi := fun W (hD : DistIn W KB AB MB M) (h : KMap W M (wishes pre)) => dist_any KB AB MB M (wishes pre) (ba s) (ba co) p q.1 l.length q.2 (by have := hp.1; simpa [wishes] using this) hsz hcz W hD h
  unfold AddOutK at hdi
  simp only [lst_ba] at hdi
  obtain ⟨A, hAe⟩ : ∃ A, accM pre ⟨s, co, p, l⟩ = A := ⟨_, rfl⟩
  obtain ⟨PA, hPA⟩ : ∃ A, preA pre ⟨s, co, p, l⟩ = A := ⟨_, rfl⟩
  obtain ⟨⟨L', E⟩, hLE⟩ : ∃ A, addW (wishes pre) (s, co) = A := ⟨_, rfl⟩
  rw [hLE] at hacc hdi
  dsimp only at hacc hdi
  rw [hAe, hPA] at hacc
  rw [hAe] at hprem hpre0 h64 ⊢
  rw [hPA] at hprem hpre0 ⊢
  obtain ⟨S, hS⟩ : ∃ S, ba s = S := ⟨_, rfl⟩
  obtain ⟨C, hCo⟩ : ∃ S, ba co = S := ⟨_, rfl⟩
  obtain ⟨n, hn⟩ : ∃ n, l.length = n := ⟨_, rfl⟩
  rw [hS, hCo, hn] at hb1 hX hdi ⊢
  rw [hS] at hkey
  have k0 : (w.alloc (.cells #[.string S, .string C, .int .i64 p, .slice q.1 n q.2] 61)).cell? ⟨NB, 0, none⟩ = some (.map (some N)) := Lib.cell?_alloc_some _ hC.n.cell
  obtain ⟨w1, hw1⟩ : ∃ w1, w.alloc (.cells #[.string S, .string C, .int .i64 p, .slice q.1 n q.2] 61) = w1 := ⟨_, rfl⟩
  rw [hw1] at hb1 hX
  have hC1 := hC.kept (Gr2.below hb1)
  have hA1 := hA.below hb1
  have hMw : M < w.heap.size := hA.m.lt
  have hNw : N < w.heap.size := hA.s.lt
  have HB1 := hid hb1
  have HX := hid hX
  have HKEY := hid hkey
  have HW1 := hid hw1
  have HSN := hid hsn
  have HPM := hid hprem
  have HP0 := hid hpre0
  have HC1 := hid hC1
  have HA1 := hid hA1
  have HFEW := hid hp.1
  have HMN := hid hMw
  have HNN := hid hNw
  have CD := hid (hdi w1 hC1.d hA1.m)
  have c0 := hC1.n.cell
  have c1 := hC1.f.cell
  have l0 := hC1.n.lt
  have l1 := hC1.f.lt
  obtain ⟨x0, x1, x2, x3⟩ := hX.cells
  have lx := hX.lt
  have hsz2 := hA1.s.sz
  unfold Cap.dist at c1
  dsimp only at c0 c1 l0 l1 hsz2
  have key : ∀ (w2 : World), KMap w2 M L' → w1.grownBy w2 (some M) → A = E → L' = wishes PA → KStud w2 N pre.length (studs pre) ∧ CapIn w2 ⟨NB, WB, KB, AB, MB, M, N⟩ ∧ Box4 w2 w.heap.size (.string S) (.string C) (.int .i64 p) (.slice q.1 n q.2) ∧ Gr2 M N w w2 := by
    intro w2 hk hg _ _
    have hg2 : Gr2 M N w1 w2 := Gr2.of hg (fun j hj => .inl (by injection hj with hj; exact hj.symm))
    refine ⟨hA1.s.kept hg (fun e => hC1.apart.1 (by injection e with e; exact e.symm)), hC1.kept hg2, hX.kept (hg.block _ hX.lt (fun e => by injection e with e; omega)), (Gr2.below hb1).trans hg2⟩
  have KEY := hid key
  clear hC hA hprem hpre0 hkey hsn hS hCo hn hX hb1 hw1 hC1 hA1 hsz hcz hp hPA hdi hs hc hMw hNw hLE key
  have fin0 : ∀ w2 w4 : World, KMap w2 M L' → w1.grownBy w2 (some M) → A = 0 → L' = wishes PA → A = E → w4.ownsMap Tryz.prog 9 boolE N (pre.length + 1) ((setB (studs pre)).put (litS s) (.lit (.bool true))) → w2.grownBy w4 (some N) →
      Acc w4 ⟨NB, WB, KB, AB, MB, M, N⟩ PA ∧ Gr2 M N w w4 := by
    intro w2 w4 hk hg hA0 hL hAE ho hg4
    obtain ⟨k1, k2, k3, k4⟩ := KEY.out w2 hk hg hAE hL
    have hpa := HP0.out hA0
    have hMN := k2.apart.1
    refine ⟨⟨?_, ?_⟩, k4.trans (Gr2.of hg4 (fun j hj => .inr (.inl (by injection hj with hj; exact hj.symm))))⟩
    · rw [← hL]; exact hk.kept hg4 (fun e => hMN (by injection e))
    · have := k1.put ho
      rw [hpa, HSN.out, List.length_append]
      exact this
  have fin1 : ∀ w2 : World, KMap w2 M L' → w1.grownBy w2 (some M) → A ≠ 0 → L' = wishes PA → A = E → Acc w2 ⟨NB, WB, KB, AB, MB, M, N⟩ PA ∧ Gr2 M N w w2 := by
    intro w2 hk hg hA0 hL hAE
    obtain ⟨k1, k2, k3, k4⟩ := KEY.out w2 hk hg hAE hL
    refine ⟨⟨by rw [← hL]; exact hk, by rw [HPM.out hA0]; exact k1⟩, k4⟩
  have FIN0 := hid fin0
  have FIN1 := hid fin1
  clear fin0 fin1
  by_cases hm : s ∈ studs pre
  · have hd : decide (s ∈ studs pre) = true := decide_eq_true hm
    rw [hd] at hat
    have HAT := hid hat
    have ha := hid (hacc (fun h => h.1 hm))
    clear hacc hsz2 hd hat hm h64 hAe
    by_cases hE : E = 0
    · subst hE
      go_enter Tryz.func69, Tryz.ntmps69
      go_wp2_with (at_lookup; rw [HW1.out]; refine wpList_lookup_known _ rfl _ _ 81 rfl 9 4 law9 Tryz.underlying81 (zeroBool _) N pre.length (setB (studs pre)) rfl HA1.out.s.own _ _ rfl HKEY.out true HAT.out ?_)
      clear k0
      refine CD.out.mono ?_
      rintro e w2 ⟨rfl, hk2, hg2⟩
      obtain ⟨hs2, hC2, hX2, hG2⟩ := KEY.out w2 hk2 hg2 ha.out.1 ha.out.2
      have n0 := hC2.n.cell
      dsimp only at n0
      have ln := hC2.n.lt
      dsimp only at ln
      obtain ⟨y0, y1, y2, y3⟩ := hX2.cells
      have ly := hX2.lt
      have HS2 := hid hs2
      have HK2 := hid hk2
      have HG2 := hid hg2
      have hA0 : A = 0 := ha.out.1
      have HA0 := hid hA0
      clear hs2 hC2 hX2 hG2 hk2 hg2 c0 c1 x0 x1 x2 x3 l0 l1 lx hA0
      go_wp2_with (at_mapUpdate; refine wpList_mapUpdate_own _ rfl _ _ _ 81 rfl 9 4 law9 Tryz.underlying81 boolE N pre.length (setB (studs pre)) rfl HS2.out.own (by unfold maxLen; have := HFEW.out; omega) _ _ _ rfl rfl HKEY.out (.lit (.bool true)) [] rfl ?_; intro w4 hown4 hgrow4)
      go_ret
      obtain ⟨r1, r2⟩ := FIN0.out w2 w4 HK2.out HG2.out HA0.out ha.out.2 ha.out.1 hown4 hgrow4
      rw [HA0.out]
      exact ⟨rfl, r1, r2⟩
    · go_enter Tryz.func69, Tryz.ntmps69
      go_wp2_with (at_lookup; rw [HW1.out]; refine wpList_lookup_known _ rfl _ _ 81 rfl 9 4 law9 Tryz.underlying81 (zeroBool _) N pre.length (setB (studs pre)) rfl HA1.out.s.own _ _ rfl HKEY.out true HAT.out ?_)
      clear k0
      have hEb : ((E : Int) == 0) = false := beq_eq_false_iff_ne.2 hE
      refine CD.out.mono ?_
      rintro e w2 ⟨rfl, hk2, hg2⟩
      obtain ⟨r1, r2⟩ := FIN1.out w2 hk2 hg2 (by rw [ha.out.1]; exact hE) ha.out.2 ha.out.1
      have R1 := hid r1
      have R2 := hid r2
      have HAE := hid ha.out.1
      clear r1 r2 hk2 hg2
      go_wp2
      go_ret
      rw [HAE.out]
      exact ⟨rfl, R1.out, R2.out⟩
  · have hd : decide (s ∈ studs pre) = false := decide_eq_false hm
    rw [hd] at hat
    have HAT := hid hat
    by_cases h6 : (studs pre).length = 64
    · have hA2 := h64 hm h6
      have HA2 := hid hA2
      rw [h6] at hsz2
      have hlen := HA1.out.s.own.len Tryz.underlying81 3
      rw [hsz2] at hlen
      have HPP := hid (HPM.out (by rw [hA2]; decide))
      clear hacc hsz2 hd hat hm h64 hA2 h6 hAe
      go_enter Tryz.func69, Tryz.ntmps69
      go_wp2_with ((first
        | (at_lookup; rw [HW1.out]; refine wpList_lookup_known _ rfl _ _ 81 rfl 9 4 law9 Tryz.underlying81 (zeroBool _) N pre.length (setB (studs pre)) rfl HA1.out.s.own _ _ rfl HKEY.out false HAT.out ?_)))
      go_ret
      rw [HA2.out, HPP.out]
      exact ⟨rfl, HA1.out, Gr2.below HB1.out⟩
    · have ha := hid (hacc (fun h => h6 h.2))
      have hlen := HA1.out.s.own.len Tryz.underlying81 3
      rw [hsz2] at hlen
      have hzb : (((studs pre).length : Int) == 64) = false := beq_eq_false_iff_ne.2 (by omega)
      have hzb2 : ¬ ((studs pre).length : Int) = 64 := by omega
      clear hacc hsz2 hd hat hm h64 hAe
      by_cases hE : E = 0
      · subst hE
        go_enter Tryz.func69, Tryz.ntmps69
        go_wp2_with ((first
          | (at_lookup; rw [HW1.out]; refine wpList_lookup_known _ rfl _ _ 81 rfl 9 4 law9 Tryz.underlying81 (zeroBool _) N pre.length (setB (studs pre)) rfl HA1.out.s.own _ _ rfl HKEY.out false HAT.out ?_)))
        clear k0
        refine CD.out.mono ?_
        rintro e w2 ⟨rfl, hk2, hg2⟩
        obtain ⟨hs2, hC2, hX2, hG2⟩ := KEY.out w2 hk2 hg2 ha.out.1 ha.out.2
        have n0 := hC2.n.cell
        dsimp only at n0
        have ln := hC2.n.lt
        dsimp only at ln
        obtain ⟨y0, y1, y2, y3⟩ := hX2.cells
        have ly := hX2.lt
        have HS2 := hid hs2
        have HK2 := hid hk2
        have HG2 := hid hg2
        have hA0 : A = 0 := ha.out.1
        have HA0 := hid hA0
        clear hs2 hC2 hX2 hG2 hk2 hg2 c0 c1 x0 x1 x2 x3 l0 l1 lx hA0
        go_wp2_with (at_mapUpdate; refine wpList_mapUpdate_own _ rfl _ _ _ 81 rfl 9 4 law9 Tryz.underlying81 boolE N pre.length (setB (studs pre)) rfl HS2.out.own (by unfold maxLen; have := HFEW.out; omega) _ _ _ rfl rfl HKEY.out (.lit (.bool true)) [] rfl ?_; intro w4 hown4 hgrow4)
        go_ret
        obtain ⟨r1, r2⟩ := FIN0.out w2 w4 HK2.out HG2.out HA0.out ha.out.2 ha.out.1 hown4 hgrow4
        rw [HA0.out]
        exact ⟨rfl, r1, r2⟩
      · go_enter Tryz.func69, Tryz.ntmps69
        go_wp2_with ((first
          | (at_lookup; rw [HW1.out]; refine wpList_lookup_known _ rfl _ _ 81 rfl 9 4 law9 Tryz.underlying81 (zeroBool _) N pre.length (setB (studs pre)) rfl HA1.out.s.own _ _ rfl HKEY.out false HAT.out ?_)))
        clear k0
        have hEb : ((E : Int) == 0) = false := beq_eq_false_iff_ne.2 hE
        refine CD.out.mono ?_
        rintro e w2 ⟨rfl, hk2, hg2⟩
        obtain ⟨r1, r2⟩ := FIN1.out w2 hk2 hg2 (by rw [ha.out.1]; exact hE) ha.out.2 ha.out.1
        have R1 := hid r1
        have R2 := hid r2
        have HAE := hid ha.out.1
        clear r1 r2 hk2 hg2
        go_wp2
        go_ret
        rw [HAE.out]
        exact ⟨rfl, R1.out, R2.out⟩
end Go.Proofs.YtlgmanbilaminaaGreatDoor.S12
