/-
  Requests that are different wishes: the function that Distinct of package entries returns, at requests. Conditions: the map is one of the call's own, with the wishes l; the texts fit into memory.
-/
import Derived.Test.YtlgmanbilaminaaGreatDoorXN01
import Derived.Test.YtlgmanbilaminaaGreatDoorXN02
import Derived.Test.YtlgmanbilaminaaGreatDoorXN04
import Derived.Test.YtlgmanbilaminaaGreatDoorXN05
import Derived.Test.YtlgmanbilaminaaGreatDoorXN08
import Derived.Test.YtlgmanbilaminaaGreatDoorProg
import Derived.WalkKit
import Derived.WalkSpells
import Derived.WalkLawsBesides
import Derived.Lib.Hide
import Derived.Deep.QuietTactic
import Derived.BigQuiet
import Derived.Laws.Rows
import Derived.OwnWalk
import Derived.Lib.BufferWrite
import Derived.Lib.UnsafeStr
import Derived.Laws.IdiomStrings
import Derived.Laws.BytesArg
import Derived.Laws.BytesString
import Derived.Laws.OwnMore
import Derived.Lib.IndexLaws
import Derived.Lib.ItoaNum
import Derived.Lib.Atoi
import Derived.Lib.Bytealg
import Derived.Maps.OwnSet
import Derived.Maps.Range
import Derived.Shelf.Abstract
import Derived.DeepKeys4
import Derived.Handy
set_option linter.unusedVariables false
namespace Go.Proofs.YtlgmanbilaminaaGreatDoor.S12
open Go Go.Proofs Go.RowKit Go.Lib Go.Proofs.YtlgmanbilaminaaGreatDoor
open Go.Maps (Keyed string_keyed)
open Go.WideMaps (keyOf_string_mk)
def aggL : Value → Option (DataW Unit × List MemPlace)
  | .agg ⟨[.string _, .string _, .int .i64 _, .slice _ _ _]⟩ => some (.agg [], [])
  | _ => none
theorem aggL_mk (a b : ByteArray) (p : Int) (A1 : Option Addr) (n1 c1 : Nat) : aggL (.agg #[.string a, .string b, .int .i64 p, .slice A1 n1 c1]) = some (.agg [], []) := rfl
theorem aggL_inv {v : Value} {z : DataW Unit × List MemPlace} (h : aggL v = some z) : ∃ (a b : ByteArray) (p : Int) (A1 : Option Addr) (n1 c1 : Nat), v = .agg #[.string a, .string b, .int .i64 p, .slice A1 n1 c1] := by
  unfold aggL at h
  split at h
  · exact ⟨_, _, _, _, _, _, rfl⟩
  · cases h
theorem laidOutA : laidOutB Tryz.prog = true := by kernel_rfl
theorem rowW : (116 : TypeId) < Tryz.prog.types.size := of_decide_eq_true (by kernel_rfl)
theorem posT : 0 < Tryz.prog.types.size := of_decide_eq_true (by kernel_rfl)
theorem sizeT : ∃ n, Tryz.prog.types.size = n + 1 := by
  have h := posT
  revert h
  generalize Tryz.prog.types.size = k
  intro h
  exact ⟨k - 1, by omega⟩
theorem cellsW : Tryz.prog.cellsOf 116 = 2 := by kernel_rfl
theorem cells9 : Tryz.prog.cellsOf 9 = 1 := by kernel_rfl
theorem typeW : Tryz.prog.keyType 116 = true := by kernel_rfl
theorem wideW : (match Tryz.prog.underlying 116 with | some (.array _ _) | some (.struct _) => true | _ => false) = true := by kernel_rfl
set_option maxRecDepth 100000 in
theorem lawW : Keyed Tryz.prog 116 := Keyed.of_law (deep_law_laid laidOutA (m := 3) (by omega) rowW (by kernel_rfl) wideW)
def litW (p : Str × Str) : Lit := .string (keyBytes [.string p.1, .string p.2])
theorem keyW (s c : ByteArray) (hs : s.size ≤ maxLen) (hc : c.size ≤ maxLen) : keyOf Tryz.prog 116 (.agg #[.string s, .string c]) = some (litW (lst s, lst c)) := by
  have hu := Tryz.underlying116
  have hf : (Value.agg #[.string s, .string c]).formed Tryz.prog 116 = true := by simp [Value.formed, hu, cellsW]
  obtain ⟨n, hn⟩ := sizeT
  have h9 := Tryz.underlying9
  unfold keyOf
  rw [hu]
  simp only [typeW, hf, Bool.and_self, if_true]
  rw [hn]
  simp [Program.keyLits, hu, cellsW, Value.cells, h9, cells9, hs, hc, litW, List.mapM_cons, List.mapM_nil]
theorem keyLitW (p : Str × Str) : WideAt.IsKeyLit (litW p) := by unfold litW; constructor
def Fits (p : Str × Str) : Prop := p.1.length ≤ maxLen ∧ p.2.length ≤ maxLen
theorem litW_inj {p q : Str × Str} (hp : Fits p) (hq : Fits q) (h : litW p = litW q) : p = q := by
  have h1 := keyW (ba p.1) (ba p.2) (by rw [Lib.size_eq]; exact hp.1) (by rw [Lib.size_eq]; exact hp.2)
  have h2 := keyW (ba q.1) (ba q.2) (by rw [Lib.size_eq]; exact hq.1) (by rw [Lib.size_eq]; exact hq.2)
  simp only [lst_ba] at h1 h2
  rw [show (p.1, p.2) = p from rfl] at h1
  rw [show (q.1, q.2) = q from rfl, ← h] at h2
  have := lawW.inj h1 h2
  simp only [Value.agg.injEq, Array.mk.injEq, List.cons.injEq, Value.string.injEq, and_true] at this
  have e1 := congrArg lst this.1
  have e2 := congrArg lst this.2
  rw [lst_ba, lst_ba] at e1 e2
  exact Prod.ext e1 e2
theorem sameKey_litW {a b : Str × Str} (ha : Fits a) (hb : Fits b) : (litW a).sameKey (litW b) = decide (a = b) := by
  by_cases h : a = b
  · subst h
    rw [WideAt.sameKey_self (keyLitW a), decide_eq_true rfl]
  · rw [Maps.sameKey_ne (fun e => h (litW_inj ha hb e)), decide_eq_false h]
def setW (l : List (Str × Str)) : DataW Unit := Maps.setOf (.agg []) (l.map litW)
theorem has_setW (l : List (Str × Str)) (c : Str × Str) (hl : ∀ p ∈ l, Fits p) (hc : Fits c) : Maps.has (setW l) (litW c) = decide (c ∈ l) := by
  unfold setW
  rw [Maps.has_setOf _ _ _ (fun x hx => by obtain ⟨s, _, rfl⟩ := List.mem_map.1 hx; exact keyLitW s)]
  rw [Bool.eq_iff_iff, List.any_eq_true, decide_eq_true_eq]
  constructor
  · rintro ⟨x, hx, hk⟩
    obtain ⟨s, hs, rfl⟩ := List.mem_map.1 hx
    rw [sameKey_litW (hl s hs) hc, decide_eq_true_eq] at hk
    subst hk
    exact hs
  · intro h
    exact ⟨litW c, List.mem_map.2 ⟨c, h, rfl⟩, by rw [sameKey_litW hc hc, decide_eq_true rfl]⟩
theorem setW_snoc (l : List (Str × Str)) (c : Str × Str) : setW (l ++ [c]) = (setW l).put (litW c) (.agg []) := by
  unfold setW
  rw [List.map_append, List.map_singleton, Maps.setOf_snoc]
structure KMap (w : World) (B : Nat) (l : List (Str × Str)) : Prop where
  own : w.ownsMap Tryz.prog 116 aggL B l.length (setW l)
  sz : Maps.size (setW l) = l.length
  fit : ∀ p ∈ l, Fits p
theorem KMap.made (w : World) : KMap (w.alloc (.map #[] 0)) w.heap.size [] := ⟨World.ownsMap_made _ _ _ _, rfl, by simp⟩
theorem KMap.kept {w w' : World} {B : Nat} {l : List (Str × Str)} {row : Option Nat} (h : KMap w B l) (hg : w.grownBy w' row) (hne : some B ≠ row) : KMap w' B l := ⟨h.own.kept hg hne, h.sz, h.fit⟩
theorem KMap.below {w w' : World} {B : Nat} {l : List (Str × Str)} (h : KMap w B l) (hb : Below w.heap.size w w') : KMap w' B l := h.kept (below_grown hb (Nat.le_refl _)) (by simp)
theorem KMap.lt {w : World} {B : Nat} {l : List (Str × Str)} (h : KMap w B l) : B < w.heap.size := h.own.lt
theorem zeroReq (w : World) : (zeroValue 61).run Tryz.prog w = .ok (.agg #[.string ⟨#[]⟩, .string ⟨#[]⟩, .int .i64 0, .slice none 0 0]) w := by kernel_rfl
theorem wpList_lookup_req {P : Program} (w : World) {ops : Array Oper} {rest : List Oper} {o : Oper} {a : Act} {Q : Exit → Act → World → Prop} (hg : o.guard = none) (m x : Operand) (t : TypeId) (hop : o.op = Op.lookup t m x true)
    (k e : TypeId) (K : Keyed P k) (ht : P.underlying t = some (.map k e)) {z : Value} (hz : (zeroValue e).run P w = .ok z w) (hzd : aggL z = some (.agg [], [])) (b n : Nat) (D : DataW Unit)
    (hm : a.eval m = .map (some b)) (hown : w.ownsMap P k aggL b n D) (key : Value) (kl : Lit) (hx : a.eval x = key) (hkey : keyOf P k key = some kl)
    (hK : ∀ (x y : ByteArray) (p : Int) (A1 : Option Addr) (n1 c1 : Nat), wpList P ops Q rest (a.put o.dst (.tuple #[.agg #[.string x, .string y, .int .i64 p, .slice A1 n1 c1], .bool (Maps.has D kl)])) w) :
    wpList P ops Q (o :: rest) a w :=
  wpList_lookup_own_ok w hg m x t hop k e K ht aggL hz (.agg []) [] hzd b n D hm hown key kl hx hkey (fun v ps hv => by
    obtain ⟨x, y, p, A1, n1, c1, rfl⟩ := aggL_inv hv
    exact hK x y p A1 n1 c1)
def addW (l : List (Str × Str)) (c : Str × Str) : List (Str × Str) × Int := if c ∈ l then (l, 11) else if l.length = 400 then (l, 2) else (l ++ [c], 0)
def AddOutK (l : List (Str × Str)) (c : Str × Str) (B : Nat) (w : World) (e : Ending) (w' : World) : Prop := e = .returned (.int .i64 (addW l c).2) ∧ KMap w' B (addW l c).1 ∧ w.grownBy w' (some B)
structure DistIn (w : World) (KB AB MB M : Nat) : Prop where
  k : Box1 w KB 117 (.func (.func 68) #[] #[])
  a : Box1 w AB 133 (.map (some M))
  m : Box1 w MB 3 (.int .i64 400)
theorem DistIn.kept {w w' : World} {KB AB MB M : Nat} (h : DistIn w KB AB MB M) (hk : ∀ b, b = KB ∨ b = AB ∨ b = MB → w'.heap[b]? = w.heap[b]?) : DistIn w' KB AB MB M :=
  ⟨h.k.kept (hk _ (.inl rfl)), h.a.kept (hk _ (.inr (.inl rfl))), h.m.kept (hk _ (.inr (.inr rfl)))⟩
theorem DistIn.next {w w' : World} {KB AB MB M : Nat} (h : DistIn w KB AB MB M) (hb : Below w.heap.size w w') : DistIn w' KB AB MB M := ⟨h.k.next hb, h.a.next hb, h.m.next hb⟩
set_option maxHeartbeats 1000000 in
theorem wishOf_any (s c : ByteArray) (p : Int) (A1 : Option Addr) (n1 c1 : Nat) (w : World) : Calls Tryz.prog 68 #[.agg #[.string s, .string c, .int .i64 p, .slice A1 n1 c1]] w fun e w' => e = .returned (.agg #[.string s, .string c]) ∧ Below w.heap.size w w' := by
  go_enter Tryz.func68, Tryz.ntmps68
  go_wp2
  go_returns
  exact ⟨rfl, by go_grown⟩
set_option maxHeartbeats 4000000 in
set_option maxRecDepth 100000 in
theorem dist_any (KB AB MB M : Nat) (l : List (Str × Str)) (s c : ByteArray) (p : Int) (A1 : Option Addr) (n1 c1 : Nat) (hl : l.length ≤ 400) (hs : s.size ≤ maxLen) (hc : c.size ≤ maxLen) (w : World) (hD : DistIn w KB AB MB M) (h : KMap w M l) :
    Calls Tryz.prog 92 #[.agg #[.string s, .string c, .int .i64 p, .slice A1 n1 c1], .pointer (some ⟨KB, 0, none⟩), .pointer (some ⟨AB, 0, none⟩), .pointer (some ⟨MB, 0, none⟩)] w (AddOutK l (lst s, lst c) M w) := by
  have eg : ∀ args w, (callFunc 68 args).run Tryz.prog w = .ok (.enter 68 args) w := enters_of Tryz.func68 (by kernel_rfl) rfl
  unfold AddOutK addW
  have hkey : keyOf Tryz.prog 116 (.agg #[.string s, .string c]) = some (litW (lst s, lst c)) := keyW s c hs hc
  have hfc : Fits (lst s, lst c) := ⟨by rw [← Lib.size_eq]; exact hs, by rw [← Lib.size_eq]; exact hc⟩
  have hhas := has_setW l (lst s, lst c) h.fit hfc
  have hBl := h.lt
  have hb1 := (Below.refl w.heap.size w).alloc (Nat.le_refl _) (.cells #[.string s, .string c, .int .i64 p, .slice A1 n1 c1] 61)
  have hX := Box4.new w (.string s) (.string c) (.int .i64 p) (.slice A1 n1 c1)
  obtain ⟨w1, hw1⟩ : ∃ w1, w.alloc (.cells #[.string s, .string c, .int .i64 p, .slice A1 n1 c1] 61) = w1 := ⟨_, rfl⟩
  rw [hw1] at hb1 hX
  have hD1 := hD.next hb1
  have hM1 := h.below hb1
  have hkl := hD.k.lt
  have hkc := hD.k.cell
  have hk1 : (w.alloc (.cells #[.string s, .string c, .int .i64 p, .slice A1 n1 c1] 61)).cell? ⟨KB, 0, none⟩ = some (.func (.func 68) #[] #[]) := Lib.cell?_alloc_some _ hkc
  obtain ⟨K, hK⟩ : ∃ K, (lst s, lst c) = K := ⟨_, rfl⟩
  rw [hK] at hkey hhas hfc ⊢
  have H1 := hid hM1
  have HD1 := hid hD1
  have HX := hid hX
  have HB1 := hid hb1
  have HKEY := hid hkey
  have HW1 := hid hw1
  have HFC := hid hfc
  clear hM1 hD1 hX hb1 hkey hw1 h hD hkl hkc hK hfc hs hc
  by_cases hm : K ∈ l
  · rw [if_pos hm]
    rw [decide_eq_true hm] at hhas
    have HHAS := hid hhas
    clear hhas hm
    go_enter Tryz.func92, Tryz.ntmps92
    go_wp2_with fail
    rw [HW1.out]
    refine (wishOf_any s c p A1 n1 c1 w1).mono ?_
    rintro e w2 ⟨rfl, hb2⟩
    have hD2 := HD1.out.next hb2
    have hM2 := H1.out.below hb2
    have hX2 := HX.out.next hb2
    obtain ⟨x0, x1, x2, x3⟩ := hX2.cells
    have a0 := hD2.a.cell
    have m0 := hD2.m.cell
    have al := hD2.a.lt
    have ml := hD2.m.lt
    have xl := hX2.lt
    have HB2 := hid (HB1.out.trans (hb2.mono HB1.out.size))
    have H2 := hid hM2
    clear hb2 hD2 hM2 hX2 hk1
    obtain ⟨W2, hW2⟩ : ∃ W2, W2 = w2 := ⟨_, rfl⟩
    clear hW2
    go_wp2_with (first
      | (at_lookup; refine wpList_lookup_req _ rfl _ _ 133 rfl 116 61 lawW Tryz.underlying133 (zeroReq _) (aggL_mk _ _ _ _ _ _) M l.length (setW l) rfl (H2.out.own.alloc _) _ _ rfl HKEY.out ?_; intro u0 u1 u2 u3 u4 u5; rw [HHAS.out])
      | go_in)
    go_ret
    exact ⟨rfl, H2.out.below (by go_grown), grown_none (below_grown (HB2.out.trans (((Below.refl _ _).alloc HB2.out.size _).trans ((Below.refl _ _).alloc (Nat.le_trans HB2.out.size (by simp)) _))) (Nat.le_refl _))⟩
  · rw [if_neg hm]
    rw [decide_eq_false hm] at hhas
    have HHAS := hid hhas
    have hsz := H1.out.sz
    by_cases h16 : l.length = 400
    · rw [if_pos h16]
      rw [h16] at hsz
      have HSZ := hid hsz
      clear hhas hsz hm
      go_enter Tryz.func92, Tryz.ntmps92
      go_wp2_with fail
      rw [HW1.out]
      refine (wishOf_any s c p A1 n1 c1 w1).mono ?_
      rintro e w2 ⟨rfl, hb2⟩
      have hD2 := HD1.out.next hb2
      have hM2 := H1.out.below hb2
      have hX2 := HX.out.next hb2
      obtain ⟨x0, x1, x2, x3⟩ := hX2.cells
      have a0 := hD2.a.cell
      have m0 := hD2.m.cell
      have al := hD2.a.lt
      have ml := hD2.m.lt
      have xl := hX2.lt
      have HB2 := hid (HB1.out.trans (hb2.mono HB1.out.size))
      have H2 := hid hM2
      clear hb2 hD2 hM2 hX2 hk1
      obtain ⟨W2, hW2⟩ : ∃ W2, W2 = w2 := ⟨_, rfl⟩
      clear hW2
      go_wp2_with (first
        | (at_lookup; refine wpList_lookup_req _ rfl _ _ 133 rfl 116 61 lawW Tryz.underlying133 (zeroReq _) (aggL_mk _ _ _ _ _ _) M l.length (setW l) rfl (H2.out.own.alloc _) _ _ rfl HKEY.out ?_; intro u0 u1 u2 u3 u4 u5; rw [HHAS.out])
        | (at_len; refine wpList_len_own _ rfl _ 133 rfl 116 61 Tryz.underlying133 aggL M l.length (setW l) rfl ((H2.out.own.alloc _).alloc _) ?_; rw [HSZ.out])
        | go_in)
      go_ret
      exact ⟨rfl, H2.out.below (by go_grown), grown_none (below_grown (HB2.out.trans (((Below.refl _ _).alloc HB2.out.size _).trans ((Below.refl _ _).alloc (Nat.le_trans HB2.out.size (by simp)) _))) (Nat.le_refl _))⟩
    · rw [if_neg h16]
      have HSZ := hid hsz
      have h16z : ((l.length : Nat) : Int) ≠ 400 := by omega
      have h16b : (((l.length : Nat) : Int) == 400) = false := by simpa using h16z
      clear hhas hsz hm
      go_enter Tryz.func92, Tryz.ntmps92
      go_wp2_with fail
      rw [HW1.out]
      refine (wishOf_any s c p A1 n1 c1 w1).mono ?_
      rintro e w2 ⟨rfl, hb2⟩
      have hD2 := HD1.out.next hb2
      have hM2 := H1.out.below hb2
      have hX2 := HX.out.next hb2
      obtain ⟨x0, x1, x2, x3⟩ := hX2.cells
      have a0 := hD2.a.cell
      have m0 := hD2.m.cell
      have al := hD2.a.lt
      have ml := hD2.m.lt
      have xl := hX2.lt
      have HB2 := hid (HB1.out.trans (hb2.mono HB1.out.size))
      have H2 := hid hM2
      clear hb2 hD2 hM2 hX2 hk1
      obtain ⟨W2, hW2⟩ : ∃ W2, W2 = w2 := ⟨_, rfl⟩
      clear hW2
      go_wp2_with (first
        | (at_lookup; refine wpList_lookup_req _ rfl _ _ 133 rfl 116 61 lawW Tryz.underlying133 (zeroReq _) (aggL_mk _ _ _ _ _ _) M l.length (setW l) rfl (H2.out.own.alloc _) _ _ rfl HKEY.out ?_; intro u0 u1 u2 u3 u4 u5; rw [HHAS.out])
        | (at_len; refine wpList_len_own _ rfl _ 133 rfl 116 61 Tryz.underlying133 aggL M l.length (setW l) rfl ((H2.out.own.alloc _).alloc _) ?_; rw [HSZ.out])
        | (at_mapUpdate; refine wpList_mapUpdate_own _ rfl _ _ _ 133 rfl 116 61 lawW Tryz.underlying133 aggL M l.length (setW l) rfl ((H2.out.own.alloc _).alloc _) (by unfold maxLen; omega) _ _ _ rfl rfl HKEY.out _ [] (aggL_mk _ _ _ _ _ _) ?_; intro w3 hown3 hgrow3)
        | go_in)
      go_ret
      refine ⟨rfl, ⟨?_, ?_, ?_⟩, ?_⟩
      · rw [setW_snoc, List.length_append, List.length_singleton]
        exact hown3
      · rw [setW_snoc, Maps.size_put (H2.out.own.tidy lawW), HHAS.out, HSZ.out, List.length_append, List.length_singleton]
        rfl
      · intro q hq
        rcases List.mem_append.1 hq with hq | hq
        · exact H2.out.fit q hq
        · rw [List.mem_singleton] at hq; subst hq; exact HFC.out
      · exact (grown_none (below_grown (HB2.out.trans (((Below.refl _ _).alloc HB2.out.size _).trans ((Below.refl _ _).alloc (Nat.le_trans HB2.out.size (by simp)) _))) (Nat.le_refl _))).andThen hgrow3 (fun j hj => .inr hj)
def DistOut (w : World) (e : Ending) (w' : World) : Prop := ∃ KB AB MB M, e = .returned (.func (.func 92) #[] #[.pointer (some ⟨KB, 0, none⟩), .pointer (some ⟨AB, 0, none⟩), .pointer (some ⟨MB, 0, none⟩)]) ∧ DistIn w' KB AB MB M ∧ KMap w' M [] ∧
  w.heap.size ≤ M ∧ KB ≠ M ∧ AB ≠ M ∧ MB ≠ M ∧ Below w.heap.size w w' ∧ w.heap.size ≤ KB ∧ w.heap.size ≤ AB ∧ w.heap.size ≤ MB
set_option maxHeartbeats 1000000 in
theorem distinct_any (w : World) : Calls Tryz.prog 67 #[.int .i64 400, .func (.func 68) #[] #[]] w (DistOut w) := by
  have hmm := @run_makeMap Tryz.prog
  go_enter Tryz.func67, Tryz.ntmps67
  go_wp2
  go_ret
  refine ⟨w.heap.size + 1, w.heap.size + 1 + 1 + 1, w.heap.size, w.heap.size + 1 + 1, rfl, ?_⟩
  have e1 := Box1.new w 3 (.int .i64 400)
  have b1 := (Below.refl w.heap.size w).alloc (Nat.le_refl _) (.cells #[.int .i64 400] 3)
  have s1 : (w.alloc (.cells #[.int .i64 400] 3)).heap.size = w.heap.size + 1 := by simp
  generalize w.alloc (.cells #[.int .i64 400] 3) = w1 at e1 b1 s1 ⊢
  have e2 := Box1.new w1 117 (.func (.func 68) #[] #[])
  have b2 := (Below.refl w1.heap.size w1).alloc (Nat.le_refl _) (.cells #[.func (.func 68) #[] #[]] 117)
  have s2 : (w1.alloc (.cells #[.func (.func 68) #[] #[]] 117)).heap.size = w.heap.size + 1 + 1 := by simp [s1]
  rw [s1] at e2
  generalize w1.alloc (.cells #[.func (.func 68) #[] #[]] 117) = w2 at e2 b2 s2 ⊢
  have e3 := KMap.made w2
  have b3 := (Below.refl w2.heap.size w2).alloc (Nat.le_refl _) (.map #[] 0)
  have s3 : (w2.alloc (.map #[] 0)).heap.size = w.heap.size + 1 + 1 + 1 := by simp [s2]
  rw [s2] at e3
  generalize w2.alloc (.map #[] 0) = w3 at e3 b3 s3 ⊢
  have e4 := Box1.new w3 133 (.map (some (w.heap.size + 1 + 1)))
  have b4 := (Below.refl w3.heap.size w3).alloc (Nat.le_refl _) (.cells #[.map (some (w.heap.size + 1 + 1))] 133)
  rw [s3] at e4
  generalize w3.alloc (.cells #[.map (some (w.heap.size + 1 + 1))] 133) = w4 at e4 b4 ⊢
  refine ⟨⟨(e2.next b3).next b4, e4, ((e1.next b2).next b3).next b4⟩, e3.below b4, by omega, by omega, by omega, by omega, ?_, by omega, by omega, by omega⟩
  exact b1.trans ((b2.mono (by omega)).trans ((b3.mono (by omega)).trans (b4.mono (by omega))))
end Go.Proofs.YtlgmanbilaminaaGreatDoor.S12
