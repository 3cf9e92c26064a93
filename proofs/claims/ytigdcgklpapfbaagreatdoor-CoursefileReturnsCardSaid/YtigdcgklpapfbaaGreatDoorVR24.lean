/-
  Entries with different codes: the function that Distinct of package entries returns, at classes. Conditions: the map is one of the call's own, with the codes l; the code fits into memory.
  Whether a grid and a number of weeks are a frame: IsFrame of timelists. No condition.
  Lists of classes: the closure of Valid, Check of package entries, Valid of coursefile. Conditions: the classes lie in memory.
  Whether two lists of strings are equal: the reference's SameStrings. Conditions: both lie in memory.
  Lists of lists of strings: Plain of the specification of records, SameLists. Conditions: the lists lie in memory.
-/
import Derived.Test.YtigdcgklpapfbaaGreatDoorVR23
set_option linter.unusedVariables false
namespace Go.Proofs.YtigdcgklpapfbaaGreatDoor.S10
open Go Go.Proofs Go.RowKit Go.Lib Go.Proofs.YtigdcgklpapfbaaGreatDoor
open Go.Maps (Keyed string_keyed)
open Go.WideMaps (keyOf_string_mk)

/-- How a class reads in the map of known ones: all that matters is that it is one. -/
def aggL : Value → Option (DataW Unit × List MemPlace)
  | .agg ⟨[.string _, .string _, .string _, .int .i64 _, .slice _ _ _, .int .i64 _, .slice _ _ _, .slice _ _ _, .slice _ _ _]⟩ => some (.agg [], [])
  | _ => none
theorem aggL_mk (c k1 k2 : ByteArray) (i3 : Int) (A4 : Option Addr) (n4 c4 : Nat) (i5 : Int) (A6 : Option Addr) (n6 c6 : Nat) (A7 : Option Addr) (n7 c7 : Nat) (A8 : Option Addr) (n8 c8 : Nat) : aggL (.agg #[.string c, .string k1, .string k2, .int .i64 i3, .slice A4 n4 c4, .int .i64 i5, .slice A6 n6 c6, .slice A7 n7 c7, .slice A8 n8 c8]) = some (.agg [], []) := rfl
theorem aggL_inv {v : Value} {z : DataW Unit × List MemPlace} (h : aggL v = some z) : ∃ (c k1 k2 : ByteArray) (i3 : Int) (A4 : Option Addr) (n4 c4 : Nat) (i5 : Int) (A6 : Option Addr) (n6 c6 : Nat) (A7 : Option Addr) (n7 c7 : Nat) (A8 : Option Addr) (n8 c8 : Nat), v = .agg #[.string c, .string k1, .string k2, .int .i64 i3, .slice A4 n4 c4, .int .i64 i5, .slice A6 n6 c6, .slice A7 n7 c7, .slice A8 n8 c8] := by
  unfold aggL at h
  split at h
  · exact ⟨_, _, _, _, _, _, _, _, _, _, _, _, _, _, _, _, _, rfl⟩
  · cases h
/-- Block B is the map of the classes with the codes l. -/
structure KMap (w : World) (B : Nat) (l : List Str) : Prop where
  own : w.ownsMap Tryz.prog 9 aggL B l.length (setR l)
  sz : Maps.size (setR l) = l.length
theorem KMap.made (w : World) : KMap (w.alloc (.map #[] 0)) w.heap.size [] := ⟨World.ownsMap_made _ _ _ _, rfl⟩
theorem KMap.kept {w w' : World} {B : Nat} {l : List Str} {row : Option Nat} (h : KMap w B l) (hg : w.grownBy w' row) (hne : some B ≠ row) : KMap w' B l := ⟨h.own.kept hg hne, h.sz⟩
theorem KMap.below {w w' : World} {B : Nat} {l : List Str} (h : KMap w B l) (hb : Below w.heap.size w w') : KMap w' B l := h.kept (below_grown hb (Nat.le_refl _)) (by simp)
theorem KMap.lt {w : World} {B : Nat} {l : List Str} (h : KMap w B l) : B < w.heap.size := h.own.lt
theorem zeroLect (w : World) : (zeroValue 33).run Tryz.prog w = .ok (.agg #[.string ⟨#[]⟩, .string ⟨#[]⟩, .string ⟨#[]⟩, .int .i64 0, .slice none 0 0, .int .i64 0, .slice none 0 0, .slice none 0 0, .slice none 0 0]) w := by kernel_rfl
theorem wpList_lookup_lect {P : Program} (w : World) {ops : Array Oper} {rest : List Oper} {o : Oper} {a : Act} {Q : Exit → Act → World → Prop} (hg : o.guard = none) (m x : Operand) (t : TypeId) (hop : o.op = Op.lookup t m x true)
    (k e : TypeId) (K : Keyed P k) (ht : P.underlying t = some (.map k e)) {z : Value} (hz : (zeroValue e).run P w = .ok z w) (hzd : aggL z = some (.agg [], [])) (b n : Nat) (D : DataW Unit)
    (hm : a.eval m = .map (some b)) (hown : w.ownsMap P k aggL b n D) (key : Value) (kl : Lit) (hx : a.eval x = key) (hkey : keyOf P k key = some kl)
    (hK : ∀ (c k1 k2 : ByteArray) (i3 : Int) (A4 : Option Addr) (n4 c4 : Nat) (i5 : Int) (A6 : Option Addr) (n6 c6 : Nat) (A7 : Option Addr) (n7 c7 : Nat) (A8 : Option Addr) (n8 c8 : Nat), wpList P ops Q rest (a.put o.dst (.tuple #[.agg #[.string c, .string k1, .string k2, .int .i64 i3, .slice A4 n4 c4, .int .i64 i5, .slice A6 n6 c6, .slice A7 n7 c7, .slice A8 n8 c8], .bool (Maps.has D kl)])) w) :
    wpList P ops Q (o :: rest) a w :=
  wpList_lookup_own_ok w hg m x t hop k e K ht aggL hz (.agg []) [] hzd b n D hm hown key kl hx hkey (fun v ps hv => by
    obtain ⟨c, k1, k2, i3, A4, n4, c4, i5, A6, n6, c6, A7, n7, c7, A8, n8, c8, rfl⟩ := aggL_inv hv
    exact hK c k1 k2 i3 A4 n4 c4 i5 A6 n6 c6 A7 n7 c7 A8 n8 c8)
/-- What the function leaves behind. -/
def AddOutK (most : Nat) (l : List Str) (c : Str) (B : Nat) (w : World) (e : Ending) (w' : World) : Prop := e = .returned (.int .i64 (addK most l c).2) ∧ KMap w' B (addK most l c).1 ∧ w.grownBy w' (some B)
/-- What the function has captured. -/
structure DistIn (w : World) (KB AB MB M : Nat) : Prop where
  k : Box1 w KB 85 (.func (.func 51) #[] #[])
  a : Box1 w AB 123 (.map (some M))
  m : Box1 w MB 3 (.int .i64 24)
theorem DistIn.kept {w w' : World} {KB AB MB M : Nat} (h : DistIn w KB AB MB M) (hk : ∀ b, b = KB ∨ b = AB ∨ b = MB → w'.heap[b]? = w.heap[b]?) : DistIn w' KB AB MB M :=
  ⟨h.k.kept (hk _ (.inl rfl)), h.a.kept (hk _ (.inr (.inl rfl))), h.m.kept (hk _ (.inr (.inr rfl)))⟩
theorem DistIn.next {w w' : World} {KB AB MB M : Nat} (h : DistIn w KB AB MB M) (hb : Below w.heap.size w w') : DistIn w' KB AB MB M := ⟨h.k.next hb, h.a.next hb, h.m.next hb⟩

set_option maxHeartbeats 1000000 in
theorem codeOf_any (c k1 k2 : ByteArray) (i3 : Int) (A4 : Option Addr) (n4 c4 : Nat) (i5 : Int) (A6 : Option Addr) (n6 c6 : Nat) (A7 : Option Addr) (n7 c7 : Nat) (A8 : Option Addr) (n8 c8 : Nat) (w : World) : Calls Tryz.prog 51 #[.agg #[.string c, .string k1, .string k2, .int .i64 i3, .slice A4 n4 c4, .int .i64 i5, .slice A6 n6 c6, .slice A7 n7 c7, .slice A8 n8 c8]] w fun e w' => e = .returned (.string c) ∧ Below w.heap.size w w' := by
  go_enter Tryz.func51, Tryz.ntmps51
  go_wp2
  go_ret
  exact ⟨rfl, (Below.refl _ _).alloc (Nat.le_refl _) _⟩

set_option maxHeartbeats 4000000 in
set_option maxRecDepth 100000 in
theorem dist_any (KB AB MB M : Nat) (l : List Str) (c k1 k2 : ByteArray) (i3 : Int) (A4 : Option Addr) (n4 c4 : Nat) (i5 : Int) (A6 : Option Addr) (n6 c6 : Nat) (A7 : Option Addr) (n7 c7 : Nat) (A8 : Option Addr) (n8 c8 : Nat) (hl : l.length ≤ 24) (hc : c.size ≤ maxLen) (w : World) (hD : DistIn w KB AB MB M) (h : KMap w M l) :
    Calls Tryz.prog 79 #[.agg #[.string c, .string k1, .string k2, .int .i64 i3, .slice A4 n4 c4, .int .i64 i5, .slice A6 n6 c6, .slice A7 n7 c7, .slice A8 n8 c8], .pointer (some ⟨KB, 0, none⟩), .pointer (some ⟨AB, 0, none⟩), .pointer (some ⟨MB, 0, none⟩)] w (AddOutK 24 l (lst c) M w) := by
  have eg : ∀ args w, (callFunc 51 args).run Tryz.prog w = .ok (.enter 51 args) w := enters_of Tryz.func51 (by kernel_rfl) rfl
  unfold AddOutK addK
  have hkey : keyOf Tryz.prog 9 (.string c) = some (litS (lst c)) := keyOf_string_mk Tryz.underlying9 hc
  have hhas := has_setR l (lst c)
  have hBl := h.lt
  have hb1 := (Below.refl w.heap.size w).alloc (Nat.le_refl _) (.cells #[.string c, .string k1, .string k2, .int .i64 i3, .slice A4 n4 c4, .int .i64 i5, .slice A6 n6 c6, .slice A7 n7 c7, .slice A8 n8 c8] 33)
  have hX := BoxC.new w #[.string c, .string k1, .string k2, .int .i64 i3, .slice A4 n4 c4, .int .i64 i5, .slice A6 n6 c6, .slice A7 n7 c7, .slice A8 n8 c8]
  obtain ⟨w1, hw1⟩ : ∃ w1, w.alloc (.cells #[.string c, .string k1, .string k2, .int .i64 i3, .slice A4 n4 c4, .int .i64 i5, .slice A6 n6 c6, .slice A7 n7 c7, .slice A8 n8 c8] 33) = w1 := ⟨_, rfl⟩
  rw [hw1] at hb1 hX
  have hD1 := hD.next hb1
  have hM1 := h.below hb1
  have hkl := hD.k.lt
  have hkc := hD.k.cell
  have hk1 : (w.alloc (.cells #[.string c, .string k1, .string k2, .int .i64 i3, .slice A4 n4 c4, .int .i64 i5, .slice A6 n6 c6, .slice A7 n7 c7, .slice A8 n8 c8] 33)).cell? ⟨KB, 0, none⟩ = some (.func (.func 51) #[] #[]) := Lib.cell?_alloc_some _ hkc
  have H1 := hid hM1
  have HD1 := hid hD1
  have HX := hid hX
  have HB1 := hid hb1
  have HKEY := hid hkey
  have HW1 := hid hw1
  clear hM1 hD1 hX hb1 hkey hw1 h hD hkl hkc
  by_cases hm : lst c ∈ l
  · rw [if_pos hm]
    rw [decide_eq_true hm] at hhas
    have HHAS := hid hhas
    clear hhas hm
    go_enter Tryz.func79, Tryz.ntmps79
    go_wp2_with fail
    rw [HW1.out]
    refine (codeOf_any c k1 k2 i3 A4 n4 c4 i5 A6 n6 c6 A7 n7 c7 A8 n8 c8 w1).mono ?_
    rintro e w2 ⟨rfl, hb2⟩
    have hD2 := HD1.out.next hb2
    have hM2 := H1.out.below hb2
    have hX2 := HX.out.next hb2
    obtain ⟨x0, x1, x2, x3, x4, x5, x6, x7, x8⟩ := hX2.cells
    have a0 := hD2.a.cell
    have m0 := hD2.m.cell
    have al := hD2.a.lt
    have ml := hD2.m.lt
    have xl := hX2.lt
    have HB2 := hid (HB1.out.trans (hb2.mono HB1.out.size))
    have H2 := hid hM2
    clear hb2 hD2 hM2 hX2 hk1
    obtain ⟨W2, hW2⟩ : ∃ W2, W2 = w2 := ⟨_, rfl⟩
    clear hW2
    go_wp2_with (first
      | (at_lookup; refine wpList_lookup_lect _ rfl _ _ 123 rfl 9 33 law9 Tryz.underlying123 (zeroLect _) (aggL_mk _ _ _ _ _ _ _ _ _ _ _ _ _ _ _ _ _) M l.length (setR l) rfl H2.out.own _ _ rfl HKEY.out ?_; intro u0 u1 u2 u3 u4 u5 u6 u7 u8 u9 u10 u11 u12 u13 u14 u15 u16; rw [HHAS.out])
      | go_in)
    go_ret
    exact ⟨rfl, H2.out.below ((Below.refl _ _).alloc (Nat.le_refl _) _), grown_none (below_grown (HB2.out.trans ((Below.refl _ _).alloc HB2.out.size _)) (Nat.le_refl _))⟩
  · rw [if_neg hm]
    rw [decide_eq_false hm] at hhas
    have HHAS := hid hhas
    have hsz := H1.out.sz
    by_cases h16 : l.length = 24
    · rw [if_pos h16]
      rw [h16] at hsz
      have HSZ := hid hsz
      clear hhas hsz hm
      go_enter Tryz.func79, Tryz.ntmps79
      go_wp2_with fail
      rw [HW1.out]
      refine (codeOf_any c k1 k2 i3 A4 n4 c4 i5 A6 n6 c6 A7 n7 c7 A8 n8 c8 w1).mono ?_
      rintro e w2 ⟨rfl, hb2⟩
      have hD2 := HD1.out.next hb2
      have hM2 := H1.out.below hb2
      have hX2 := HX.out.next hb2
      obtain ⟨x0, x1, x2, x3, x4, x5, x6, x7, x8⟩ := hX2.cells
      have a0 := hD2.a.cell
      have m0 := hD2.m.cell
      have al := hD2.a.lt
      have ml := hD2.m.lt
      have xl := hX2.lt
      have HB2 := hid (HB1.out.trans (hb2.mono HB1.out.size))
      have H2 := hid hM2
      clear hb2 hD2 hM2 hX2 hk1
      obtain ⟨W2, hW2⟩ : ∃ W2, W2 = w2 := ⟨_, rfl⟩
      clear hW2
      go_wp2_with (first
        | (at_lookup; refine wpList_lookup_lect _ rfl _ _ 123 rfl 9 33 law9 Tryz.underlying123 (zeroLect _) (aggL_mk _ _ _ _ _ _ _ _ _ _ _ _ _ _ _ _ _) M l.length (setR l) rfl H2.out.own _ _ rfl HKEY.out ?_; intro u0 u1 u2 u3 u4 u5 u6 u7 u8 u9 u10 u11 u12 u13 u14 u15 u16; rw [HHAS.out])
        | (at_len; refine wpList_len_own _ rfl _ 123 rfl 9 33 Tryz.underlying123 aggL M l.length (setR l) rfl (H2.out.own.alloc _) ?_; rw [HSZ.out])
        | go_in)
      go_ret
      exact ⟨rfl, H2.out.below ((Below.refl _ _).alloc (Nat.le_refl _) _), grown_none (below_grown (HB2.out.trans ((Below.refl _ _).alloc HB2.out.size _)) (Nat.le_refl _))⟩
    · rw [if_neg h16]
      have HSZ := hid hsz
      have h16z : ((l.length : Nat) : Int) ≠ 24 := by omega
      have h16b : (((l.length : Nat) : Int) == 24) = false := by simpa using h16z
      clear hhas hsz hm
      go_enter Tryz.func79, Tryz.ntmps79
      go_wp2_with fail
      rw [HW1.out]
      refine (codeOf_any c k1 k2 i3 A4 n4 c4 i5 A6 n6 c6 A7 n7 c7 A8 n8 c8 w1).mono ?_
      rintro e w2 ⟨rfl, hb2⟩
      have hD2 := HD1.out.next hb2
      have hM2 := H1.out.below hb2
      have hX2 := HX.out.next hb2
      obtain ⟨x0, x1, x2, x3, x4, x5, x6, x7, x8⟩ := hX2.cells
      have a0 := hD2.a.cell
      have m0 := hD2.m.cell
      have al := hD2.a.lt
      have ml := hD2.m.lt
      have xl := hX2.lt
      have HB2 := hid (HB1.out.trans (hb2.mono HB1.out.size))
      have H2 := hid hM2
      clear hb2 hD2 hM2 hX2 hk1
      obtain ⟨W2, hW2⟩ : ∃ W2, W2 = w2 := ⟨_, rfl⟩
      clear hW2
      go_wp2_with (first
        | (at_lookup; refine wpList_lookup_lect _ rfl _ _ 123 rfl 9 33 law9 Tryz.underlying123 (zeroLect _) (aggL_mk _ _ _ _ _ _ _ _ _ _ _ _ _ _ _ _ _) M l.length (setR l) rfl H2.out.own _ _ rfl HKEY.out ?_; intro u0 u1 u2 u3 u4 u5 u6 u7 u8 u9 u10 u11 u12 u13 u14 u15 u16; rw [HHAS.out])
        | (at_len; refine wpList_len_own _ rfl _ 123 rfl 9 33 Tryz.underlying123 aggL M l.length (setR l) rfl (H2.out.own.alloc _) ?_; rw [HSZ.out])
        | (at_mapUpdate; refine wpList_mapUpdate_own _ rfl _ _ _ 123 rfl 9 33 law9 Tryz.underlying123 aggL M l.length (setR l) rfl (H2.out.own.alloc _) (by unfold maxLen; omega) _ _ _ rfl rfl HKEY.out _ [] (aggL_mk _ _ _ _ _ _ _ _ _ _ _ _ _ _ _ _ _) ?_; intro w3 hown3 hgrow3)
        | go_in)
      go_ret
      refine ⟨rfl, ⟨?_, ?_⟩, ?_⟩
      · rw [setR_snoc, List.length_append, List.length_singleton]
        exact hown3
      · rw [setR_snoc, Maps.size_put (H2.out.own.tidy law9), HHAS.out, HSZ.out, List.length_append, List.length_singleton]
        rfl
      · exact (grown_none (below_grown (HB2.out.trans ((Below.refl _ _).alloc HB2.out.size _)) (Nat.le_refl _))).andThen hgrow3 (fun j hj => .inr hj)

/-- What Distinct leaves behind. -/
def DistOut (w : World) (e : Ending) (w' : World) : Prop := ∃ KB AB MB M, e = .returned (.func (.func 79) #[] #[.pointer (some ⟨KB, 0, none⟩), .pointer (some ⟨AB, 0, none⟩), .pointer (some ⟨MB, 0, none⟩)]) ∧ DistIn w' KB AB MB M ∧ KMap w' M [] ∧
  w.heap.size ≤ M ∧ KB ≠ M ∧ AB ≠ M ∧ MB ≠ M ∧ Below w.heap.size w w'
set_option maxHeartbeats 1000000 in
theorem distinct_any (w : World) : Calls Tryz.prog 50 #[.int .i64 24, .func (.func 51) #[] #[]] w (DistOut w) := by
  have hmm := @run_makeMap Tryz.prog
  go_enter Tryz.func50, Tryz.ntmps50
  go_wp2
  go_ret
  refine ⟨w.heap.size + 1, w.heap.size + 1 + 1 + 1, w.heap.size, w.heap.size + 1 + 1, rfl, ?_⟩
  have e1 := Box1.new w 3 (.int .i64 24)
  have b1 := (Below.refl w.heap.size w).alloc (Nat.le_refl _) (.cells #[.int .i64 24] 3)
  have s1 : (w.alloc (.cells #[.int .i64 24] 3)).heap.size = w.heap.size + 1 := by simp
  generalize w.alloc (.cells #[.int .i64 24] 3) = w1 at e1 b1 s1 ⊢
  have e2 := Box1.new w1 85 (.func (.func 51) #[] #[])
  have b2 := (Below.refl w1.heap.size w1).alloc (Nat.le_refl _) (.cells #[.func (.func 51) #[] #[]] 85)
  have s2 : (w1.alloc (.cells #[.func (.func 51) #[] #[]] 85)).heap.size = w.heap.size + 1 + 1 := by simp [s1]
  rw [s1] at e2
  generalize w1.alloc (.cells #[.func (.func 51) #[] #[]] 85) = w2 at e2 b2 s2 ⊢
  have e3 := KMap.made w2
  have b3 := (Below.refl w2.heap.size w2).alloc (Nat.le_refl _) (.map #[] 0)
  have s3 : (w2.alloc (.map #[] 0)).heap.size = w.heap.size + 1 + 1 + 1 := by simp [s2]
  rw [s2] at e3
  generalize w2.alloc (.map #[] 0) = w3 at e3 b3 s3 ⊢
  have e4 := Box1.new w3 123 (.map (some (w.heap.size + 1 + 1)))
  have b4 := (Below.refl w3.heap.size w3).alloc (Nat.le_refl _) (.cells #[.map (some (w.heap.size + 1 + 1))] 123)
  rw [s3] at e4
  generalize w3.alloc (.cells #[.map (some (w.heap.size + 1 + 1))] 123) = w4 at e4 b4 ⊢
  refine ⟨⟨(e2.next b3).next b4, e4, ((e1.next b2).next b3).next b4⟩, e3.below b4, by omega, by omega, by omega, by omega, ?_⟩
  exact b1.trans ((b2.mono (by omega)).trans ((b3.mono (by omega)).trans (b4.mono (by omega))))
end Go.Proofs.YtigdcgklpapfbaaGreatDoor.S10

set_option linter.unusedVariables false
namespace Go.Proofs.YtigdcgklpapfbaaGreatDoor.S10
open Go Go.Proofs Go.RowKit Go.Lib Go.Proofs.YtigdcgklpapfbaaGreatDoor

set_option maxHeartbeats 4000000 in
set_option maxRecDepth 100000 in
theorem rframe_any (d s b m n : Int) (w : World) : Calls Tryz.prog 46 #[.agg #[.int .i64 d, .int .i64 s, .int .i64 b, .int .i64 m], .int .i64 n] w (Says (.bool (frameB d s b m n)) w) := by
  have cV := fun w => gvalid_any d s b m w
  unfold Says at cV ⊢
  have hF : frameB d s b m n = (gridB d s b m && decide (1 ≤ n) && decide (n ≤ 20)) := by
    unfold frameB
    rw [Bool.eq_iff_iff]
    simp
    constructor
    · rintro ⟨h1, h2, h3⟩; exact ⟨⟨h1, h2⟩, h3⟩
    · rintro ⟨⟨h1, h2⟩, h3⟩; exact ⟨h1, h2, h3⟩
  rw [hF]
  have hk := K1.first w d s b m 24
  have HK := hid hk
  clear hk hF
  cases hg : gridB d s b m with
  | false =>
    rw [hg, if_neg (by simp)] at cV
    clear hg
    go_enter Tryz.func46, Tryz.ntmps46
    go_wp2_with fail
    refine (cV _).mono ?_
    rintro e w1 ⟨rfl, hb⟩
    have hk := HK.out.next hb
    clear hb HK
    go_wp2
    go_ret
    exact ⟨rfl, hk.b⟩
  | true =>
    rw [hg, if_pos rfl] at cV
    clear hg
    by_cases h1 : 1 ≤ n
    · have h1d : decide (1 ≤ n) = true := decide_eq_true h1
      by_cases h2 : n ≤ 20
      · have h2d : decide (n ≤ 20) = true := decide_eq_true h2
        rw [h1d, h2d]
        go_enter Tryz.func46, Tryz.ntmps46
        go_wp2_with fail
        refine (cV _).mono ?_
        rintro e w1 ⟨rfl, hb⟩
        have hk := HK.out.next hb
        clear hb HK
        go_wp2
        go_ret
        exact ⟨rfl, hk.b⟩
      · have h2d : decide (n ≤ 20) = false := decide_eq_false h2
        rw [h1d, h2d]
        go_enter Tryz.func46, Tryz.ntmps46
        go_wp2_with fail
        refine (cV _).mono ?_
        rintro e w1 ⟨rfl, hb⟩
        have hk := HK.out.next hb
        clear hb HK
        go_wp2
        go_ret
        exact ⟨rfl, hk.b⟩
    · have h1d : decide (1 ≤ n) = false := decide_eq_false h1
      rw [h1d]
      go_enter Tryz.func46, Tryz.ntmps46
      go_wp2_with fail
      refine (cV _).mono ?_
      rintro e w1 ⟨rfl, hb⟩
      have hk := HK.out.next hb
      clear hb HK
      go_wp2
      go_ret
      exact ⟨by simp, hk.b⟩
end Go.Proofs.YtigdcgklpapfbaaGreatDoor.S10

set_option linter.unusedVariables false
namespace Go.Proofs.YtigdcgklpapfbaaGreatDoor.S10
open Go Go.Proofs Go.RowKit Go.Lib Go.Proofs.YtigdcgklpapfbaaGreatDoor

theorem vlen16 {s : Str} (h : S3.validC s = true) : s.length ≤ 16 := by
  unfold S3.validC at h
  cases s with
  | nil => simp
  | cons a r => simp at h; simp; omega
set_option maxHeartbeats 2000000 in
set_option maxRecDepth 100000 in
/-- The closure that checks one class. -/
theorem check1_any (d s b m n : Int) (x : ClassD) (q : ClassA) (G N : Nat) (w : World) (hG : Box4 w G d s b m) (hN : w.cell? ⟨N, 0, none⟩ = some (.int .i64 n)) (hNl : N < w.heap.size) (h : ClassIn w (fun b => b < w.heap.size) x q) (hin : ∀ t ∈ x.starts, t.2 ≤ 9223372036854775807) :
    Calls Tryz.prog 47 #[clsV x q, .pointer (some ⟨G, 0, none⟩), .pointer (some ⟨N, 0, none⟩)] w (Says (.int .i64 (checkM d s b m n x)) w) := by
  have hb1 := (Below.refl w.heap.size w).alloc (Nat.le_refl _) (.cells (clsArr x q) 33)
  have hGl := hG.lt
  obtain ⟨w1, hw1⟩ : ∃ w1, w.alloc (.cells (clsArr x q) 33) = w1 := ⟨_, rfl⟩
  have hX := BoxC.new w (clsArr x q)
  rw [hw1] at hX hb1
  have cC := check_any d s b m n x q w1 ((h.below hb1).mono (fun k hk => Nat.lt_of_lt_of_le hk hb1.size)) hin
  obtain ⟨R, hR⟩ : ∃ R, checkM d s b m n x = R := ⟨_, rfl⟩
  rw [hR] at cC ⊢
  obtain ⟨c0, c1, c2, len, pats, seats, feats, staff, starts⟩ := x
  obtain ⟨aP, cP, aF, cF, aS, cS, aT, cT⟩ := q
  unfold Says clsV at *
  unfold clsArr at hw1 hX
  dsimp only at cC hw1 hX ⊢
  obtain ⟨X0, hX0⟩ : ∃ X, ba c0 = X := ⟨_, rfl⟩
  obtain ⟨X1, hX1⟩ : ∃ X, ba c1 = X := ⟨_, rfl⟩
  obtain ⟨X2, hX2⟩ : ∃ X, ba c2 = X := ⟨_, rfl⟩
  obtain ⟨nP, hnP⟩ : ∃ F, pats.length = F := ⟨_, rfl⟩
  obtain ⟨nF, hnF⟩ : ∃ F, feats.length = F := ⟨_, rfl⟩
  obtain ⟨nS, hnS⟩ : ∃ F, staff.length = F := ⟨_, rfl⟩
  obtain ⟨nT, hnT⟩ : ∃ F, starts.length = F := ⟨_, rfl⟩
  rw [hX0, hX1, hX2, hnP, hnF, hnS, hnT] at cC hw1 hX ⊢
  obtain ⟨g0, g1, g2, g3, _⟩ := hG
  obtain ⟨x0, x1, x2, x3, x4, x5, x6, x7, x8⟩ := hX.cells
  have CC := hid cC
  have HB := hid hb1
  have HW1 := hid hw1
  clear cC hX hb1 h hR hw1 hX0 hX1 hX2 hnP hnF hnS hnT hin
  go_enter Tryz.func47, Tryz.ntmps47
  go_wp2_with fail
  (try rw [HW1.out])
  refine CC.out.mono ?_
  rintro e w' ⟨rfl, hb3⟩
  have HB3 := hid (HB.out.trans (hb3.mono HB.out.size))
  clear hb3
  go_wp2
  go_ret
  exact ⟨rfl, HB3.out⟩

theorem grown_underV {w w1 w2 : World} {M : Nat} (h : w.grownBy w1 (some M)) (hb : Below w1.heap.size w1 w2) : w.grownBy w2 (some M) :=
  h.andThen (below_grown hb (Nat.le_refl _)) (fun j hj => by cases hj)
theorem addKV_ok {l : List Str} {c : Str} (hm : c ∉ l) (hl : l.length < 24) : addK 24 l c = (l ++ [c], 0) := by
  unfold addK; rw [if_neg hm, if_neg (by omega)]
theorem addKV_dup {l : List Str} {c : Str} (hm : c ∈ l) : addK 24 l c = (l, 11) := if_pos hm
/-- What holds around the loop: the boxes. -/
structure CKV (d s b m n : Int) (G N KB AB MB M : Nat) (w : World) : Prop where
  g : Box4 w G d s b m
  n : Box1 w N 3 (.int .i64 n)
  d : DistIn w KB AB MB M
  gm : G ≠ M
  nm : N ≠ M
  km : KB ≠ M
  am : AB ≠ M
  mm : MB ≠ M
theorem CKV.grown {d s b m n : Int} {G N KB AB MB M : Nat} {w w' : World} (h : CKV d s b m n G N KB AB MB M w) (hg : w.grownBy w' (some M)) : CKV d s b m n G N KB AB MB M w' := by
  have kb : ∀ k, k < w.heap.size → k ≠ M → w'.heap[k]? = w.heap[k]? := fun k hk hn => hg.block k hk (fun e => hn (Option.some.inj e))
  have hgb := kb _ h.g.lt h.gm
  have hx := h.g
  have kc : ∀ o : Nat, w'.cell? ⟨G, o, none⟩ = w.cell? ⟨G, o, none⟩ := fun o => World.cell?_of_block (w := w) hgb
  exact ⟨⟨(kc 0).trans hx.c0, (kc 1).trans hx.c1, (kc 2).trans hx.c2, (kc 3).trans hx.c3, Nat.lt_of_lt_of_le hx.lt hg.size⟩, h.n.kept (kb _ h.n.lt h.nm),
    h.d.kept (fun k hk => by
      rcases hk with rfl | rfl | rfl
      · exact kb _ h.d.k.lt h.km
      · exact kb _ h.d.a.lt h.am
      · exact kb _ h.d.m.lt h.mm), h.gm, h.nm, h.km, h.am, h.mm⟩

set_option maxHeartbeats 16000000 in
set_option maxRecDepth 100000 in
theorem chk_any (d s b m n : Int) (A : Option Addr) (l : List ClassD) (c G N KB AB MB M : Nat) (w : World) (h : ClassesIn w (fun k => k < M) A l) (hin : ∀ x ∈ l, ∀ t ∈ x.starts, t.2 ≤ 9223372036854775807) (hM : KMap w M []) (hC : CKV d s b m n G N KB AB MB M w) :
    Calls Tryz.prog 49 #[.slice A l.length c, .int .i64 24, .func (.func 47) #[] #[.pointer (some ⟨G, 0, none⟩), .pointer (some ⟨N, 0, none⟩)],
      .func (.func 79) #[] #[.pointer (some ⟨KB, 0, none⟩), .pointer (some ⟨AB, 0, none⟩), .pointer (some ⟨MB, 0, none⟩)]] w
      fun e w' => e = .returned (.int .i64 (if 24 < l.length then 2 else goK d s b m n [] l)) ∧ w.grownBy w' (some M) := by
  have HIN := hid hin
  clear hin
  have eg1 : ∀ args w, (callFunc 47 args).run Tryz.prog w = .ok (.enter 47 args) w := enters_of Tryz.func47 (by kernel_rfl) rfl
  have eg2 : ∀ args w, (callFunc 79 args).run Tryz.prog w = .ok (.enter 79 args) w := enters_of Tryz.func79 (by kernel_rfl) rfl
  obtain ⟨R, hR⟩ : ∃ R, (if 24 < l.length then 2 else goK d s b m n [] l) = R := ⟨_, rfl⟩
  rw [hR]
  have hg0 : w.grownBy w (some M) := grown_none (below_grown (Below.refl _ w) (Nat.le_refl _))
  by_cases h24 : 24 < l.length
  · rw [if_pos h24] at hR
    subst hR
    have hz : (24 : Int) < (l.length : Int) := by omega
    have HG0 := hid hg0
    clear hg0 hC hM h h24
    go_enter Tryz.func49, Tryz.ntmps49
    go_wp2
    go_ret
    exact ⟨rfl, HG0.out⟩
  · rw [if_neg h24] at hR
    have hz : ¬ (24 : Int) < (l.length : Int) := by omega
    have HR : Hid (goK d s b m n (codesK (l.take 0)) (l.drop 0) = R) := hid hR
    have HM := hid hM
    have HC := hid hC
    have HH := hid h
    have HG0 := hid hg0
    have HMl := hid hM.lt
    clear hR hg0 hC hM h
    go_enter Tryz.func49, Tryz.ntmps49
    go_wp2
    go_loopw [10, 11, 12, 19] (fun _ _ _ iv wr => ∃ i : Nat, iv = .int .i64 (i : Int) ∧ i ≤ l.length ∧ Hid (goK d s b m n (codesK (l.take i)) (l.drop i) = R) ∧ Hid (KMap wr M (codesK (l.take i))) ∧ Hid (w.grownBy wr (some M))) (fun _ _ _ iv _ => l.length - (RowKit.intOf iv).toNat)
    case atStart => exact ⟨0, rfl, Nat.zero_le _, HR, hid HM.out, HG0⟩
    case round =>
      obtain ⟨i, rfl, hi, hE, hS, hK⟩ := hrel
      by_cases hlt : i < l.length
      · have hltz : (i : Int) < (l.length : Int) := by omega
        have hst := goK_step d s b m n l i hlt
        rw [hE.out] at hst
        have hcl : (codesK (l.take i)).length = i := by simp [codesK]; omega
        have hCr := HC.out.grown hK.out
        obtain ⟨fb, fo, q, rfl, hfb, hri, hat⟩ := (HH.out.kept (fun k hk => hK.out.block k (Nat.lt_trans hk HMl.out) (fun e => by injection e with e; omega))).at_ hlt
        have hadd : codesK (l.take (i + 1)) = codesK (l.take i) ++ [l[i].code] := by rw [List.take_succ_eq_append_getElem hlt]; unfold codesK; rw [List.map_append]; rfl
        have hMwr : M < wr.heap.size := Nat.lt_of_lt_of_le HMl.out hK.out.size
        have hb1 := (Below.refl wr.heap.size wr).alloc (Nat.le_refl _) (.cells (clsArr l[i] q) 33)
        have hX := BoxC.new wr (clsArr l[i] q)
        have hs1 : (wr.alloc (.cells (clsArr l[i] q) 33)).heap.size = wr.heap.size + 1 := by simp
        obtain ⟨w1, hw1⟩ : ∃ w1, wr.alloc (.cells (clsArr l[i] q) 33) = w1 := ⟨_, rfl⟩
        rw [hw1] at hb1 hX hs1
        have hg1 := grown_underV hK.out hb1
        have hC1 := HC.out.grown hg1
        have hS1 := hS.out.below hb1
        have cC := check1_any d s b m n l[i] q G N w1 hC1.g hC1.n.cell hC1.n.lt ((hri.kept (fun k hk => hb1.block k (Nat.lt_trans hk hMwr))).mono (fun k hk => by have := hb1.size; omega)) (HIN.out l[i] (List.getElem_mem hlt))
        have hcode : checkM d s b m n l[i] = 0 → l[i].code.length ≤ 16 := fun h => vlen16 (checkM_code h)
        unfold Says clsV at cC
        obtain ⟨⟨c0, c1, c2, len, pats, seats, feats, staff, starts⟩, hr⟩ : ∃ r, l[i] = r := ⟨_, rfl⟩
        obtain ⟨aP, cP, aF, cF, aS, cS, aT, cT⟩ := q
        unfold clsArr at hX hw1
        rw [hr] at hst hat cC hadd hcode hX hw1
        dsimp only at hst hat cC hadd hX hw1
        obtain ⟨E, hE2⟩ : ∃ E, checkM d s b m n ⟨c0, c1, c2, len, pats, seats, feats, staff, starts⟩ = E := ⟨_, rfl⟩
        rw [hE2] at cC hst hcode
        dsimp only at hcode
        obtain ⟨X0, hX0⟩ : ∃ X, ba c0 = X := ⟨_, rfl⟩
        obtain ⟨X1, hX1⟩ : ∃ X, ba c1 = X := ⟨_, rfl⟩
        obtain ⟨X2, hX2⟩ : ∃ X, ba c2 = X := ⟨_, rfl⟩
        obtain ⟨nP, hnP⟩ : ∃ F, pats.length = F := ⟨_, rfl⟩
        obtain ⟨nF, hnF⟩ : ∃ F, feats.length = F := ⟨_, rfl⟩
        obtain ⟨nS, hnS⟩ : ∃ F, staff.length = F := ⟨_, rfl⟩
        obtain ⟨nT, hnT⟩ : ∃ F, starts.length = F := ⟨_, rfl⟩
        unfold ClassAt at hat
        dsimp only at hat
        rw [hX0, hX1, hX2, hnP, hnF, hnS, hnT] at hat cC hw1 hX
        obtain ⟨y0, y1, y2, y3, y4, y5, y6, y7, y8⟩ := hat
        have hX1l : lst X0 = c0 := by rw [← hX0]; rfl
        have HXL := hid hX1l
        have HST := hid hst
        have HADD := hid hadd
        have HCODE := hid hcode
        have HCL := hid hcl
        have HW1 := hid hw1
        have HX := hid hX
        have HC1 := hid hC1
        have HG1 := hid hg1
        have HS1 := hid hS1
        have HZ1 := hid hs1
        have CC := hid cC
        clear hr hE2 hX0 hX1 hX2 hnP hnF hnS hnT hX1l hst hadd hcode hcl hw1 hX hC1 hg1 hS1 hs1 cC hri hfb hE hK hS hb1 hCr hMwr
        by_cases hE0 : E = 0
        · subst hE0
          have hst := HST.out
          rw [if_neg (by simp)] at hst
          have hcl16 := HCODE.out rfl
          by_cases hm : c0 ∈ codesK (l.take i)
          · rw [if_pos hm] at hst
            have HRR := hid hst
            clear hst
            go_wp2_with fail
            rw [HW1.out]
            refine CC.out.mono ?_
            rintro e w2 ⟨rfl, hb2⟩
            have hXX := HX.out.next hb2
            have hS2 := HS1.out.below hb2
            have hg2 := grown_underV HG1.out hb2
            have hC2 := HC.out.grown hg2
            obtain ⟨z0, z1, z2, z3, z4, z5, z6, z7, z8⟩ := hXX.cells
            have cA := dist_any KB AB MB M (codesK (l.take i)) X0 X1 X2 len aP nP cP seats aF nF cF aS nS cS aT nT cT (by rw [HCL.out]; omega) (by rw [Lib.size_eq]; show (lst X0).length ≤ maxLen; rw [HXL.out]; unfold maxLen; omega) w2 hC2.d hS2
            unfold AddOutK at cA
            rw [HXL.out, addKV_dup hm] at cA
            dsimp only at cA
            have CA := hid cA
            have HG2 := hid hg2
            clear cA hC2 hS2 hXX hb2 hg2 hm
            go_wp2_with fail
            refine CA.out.mono ?_
            rintro e w3 ⟨rfl, hS3, hg3⟩
            have HG3 := hid (HG2.out.andThen hg3 (fun j hj => .inr hj))
            clear hg3 hS3
            go_wp2
            go_ret
            rw [HRR.out]
            exact ⟨rfl, HG3.out⟩
          · rw [if_neg hm] at hst
            have HRR := hid hst
            clear hst
            go_wp2_with fail
            rw [HW1.out]
            refine CC.out.mono ?_
            rintro e w2 ⟨rfl, hb2⟩
            have hXX := HX.out.next hb2
            have hS2 := HS1.out.below hb2
            have hg2 := grown_underV HG1.out hb2
            have hC2 := HC.out.grown hg2
            obtain ⟨z0, z1, z2, z3, z4, z5, z6, z7, z8⟩ := hXX.cells
            have cA := dist_any KB AB MB M (codesK (l.take i)) X0 X1 X2 len aP nP cP seats aF nF cF aS nS cS aT nT cT (by rw [HCL.out]; omega) (by rw [Lib.size_eq]; show (lst X0).length ≤ maxLen; rw [HXL.out]; unfold maxLen; omega) w2 hC2.d hS2
            unfold AddOutK at cA
            rw [HXL.out, addKV_ok hm (by rw [HCL.out]; omega)] at cA
            dsimp only at cA
            rw [← HADD.out] at cA
            have CA := hid cA
            have HG2 := hid hg2
            clear cA hC2 hS2 hXX hb2 hg2 hm
            go_wp2_with fail
            refine CA.out.mono ?_
            rintro e w3 ⟨rfl, hS3, hg3⟩
            have HG3 := hid (HG2.out.andThen hg3 (fun j hj => .inr hj))
            have HS3 := hid hS3
            clear hg3 hS3
            go_wp2
            go_roundw
            case rel => exact ⟨i + 1, by go_num, by omega, hid HRR.out.symm, hid HS3.out, hid HG3.out⟩
            case measure => simp [RowKit.intOf]; omega
        · have hst := HST.out
          rw [if_pos hE0] at hst
          have HRR := hid hst
          have hE0' : (E != 0) = true := by simpa using hE0
          have hE0'' : (E == 0) = false := by simpa using hE0
          clear hst
          go_wp2_with fail
          rw [HW1.out]
          refine CC.out.mono ?_
          rintro e w2 ⟨rfl, hb2⟩
          have HG2 := hid (grown_underV HG1.out hb2)
          clear hb2
          go_wp2
          go_ret
          rw [HRR.out]
          exact ⟨rfl, HG2.out⟩
      · have hltz : ¬ (i : Int) < (l.length : Int) := by omega
        have hn : Hid (R = 0) := hid (by rw [← hE.out, List.drop_of_length_le (by omega)]; rfl)
        go_wp2
        go_ret
        rw [hn.out]
        exact ⟨rfl, hK.out⟩

set_option maxHeartbeats 16000000 in
set_option maxRecDepth 100000 in
theorem kvalid_any (d s b m n : Int) (A : Option Addr) (l : List ClassD) (c : Nat) (w : World) (h : ClassesIn w (fun k => k < w.heap.size) A l) (hin : ∀ x ∈ l, ∀ t ∈ x.starts, t.2 ≤ 9223372036854775807) :
    Calls Tryz.prog 16 #[.slice A l.length c, .agg #[.int .i64 d, .int .i64 s, .int .i64 b, .int .i64 m], .int .i64 n] w (Says (.int .i64 (validK d s b m n l)) w) := by
  have cF := fun w => rframe_any d s b m n w
  unfold Says at cF ⊢
  have hG := Box4.new w d s b m 24
  have hb1 := (Below.refl w.heap.size w).alloc (Nat.le_refl _) (.cells #[.int .i64 d, .int .i64 s, .int .i64 b, .int .i64 m] 24)
  have hs1 : (w.alloc (.cells #[.int .i64 d, .int .i64 s, .int .i64 b, .int .i64 m] 24)).heap.size = w.heap.size + 1 := by simp
  obtain ⟨w1, hw1⟩ : ∃ w1, w.alloc (.cells #[.int .i64 d, .int .i64 s, .int .i64 b, .int .i64 m] 24) = w1 := ⟨_, rfl⟩
  rw [hw1] at hG hb1 hs1
  have hN := Box1.new w1 3 (.int .i64 n)
  have hb2 := (Below.refl w1.heap.size w1).alloc (Nat.le_refl _) (.cells #[.int .i64 n] 3)
  obtain ⟨w2, hw2⟩ : ∃ w2, w1.alloc (.cells #[.int .i64 n] 3) = w2 := ⟨_, rfl⟩
  rw [hw2] at hN hb2
  rw [hs1] at hN
  have hG2 := hG.next hb2 hG.lt
  have hb := hb1.trans (hb2.mono (by omega))
  have HG := hid hG2
  have HN := hid hN
  have HB := hid hb
  have HW1 := hid hw1
  have HW2 := hid hw2
  have HH := hid h
  clear hG hb1 hs1 hw1 hN hb2 hw2 hG2 hb h
  cases hf : frameB d s b m n with
  | false =>
    rw [hf] at cF
    have hR : validK d s b m n l = 1 := by unfold validK; rw [if_pos hf]
    rw [hR]
    clear hf hR
    go_enter Tryz.func16, Tryz.ntmps16
    go_wp2_with fail
    (try rw [HW1.out])
    (try rw [HW2.out])
    refine (cF _).mono ?_
    rintro e w3 ⟨rfl, hb3⟩
    have HB3 := hid (HB.out.trans (hb3.mono HB.out.size))
    clear hb3
    go_wp2
    go_ret
    exact ⟨rfl, HB3.out⟩
  | true =>
    rw [hf] at cF
    have hR : validK d s b m n l = if 24 < l.length then 2 else goK d s b m n [] l := by unfold validK; rw [if_neg (by simp [hf])]
    obtain ⟨R, hR'⟩ : ∃ R, validK d s b m n l = R := ⟨_, rfl⟩
    rw [hR']
    rw [hR'] at hR
    have HR := hid hR
    clear hf hR hR'
    go_enter Tryz.func16, Tryz.ntmps16
    go_wp2_with fail
    (try rw [HW1.out])
    (try rw [HW2.out])
    refine (cF _).mono ?_
    rintro e w3 ⟨rfl, hb3⟩
    have hB3 := HB.out.trans (hb3.mono HB.out.size)
    have hG3 := HG.out.next hb3 HG.out.lt
    have hN3 := HN.out.next hb3
    have HB3 := hid hB3
    have HG3 := hid hG3
    have HN3 := hid hN3
    clear hb3 hB3 hG3 hN3
    go_wp2_with fail
    refine (distinct_any w3).mono ?_
    rintro e w4 ⟨KB, AB, MB, M, rfl, hD, hM, hM4, k1, k2, k3, hb4⟩
    have hG4 := HG3.out.next hb4 HG3.out.lt
    have hN4 := HN3.out.next hb4
    have hgl := HG3.out.lt
    have hnl := HN3.out.lt
    have hc := chk_any d s b m n A l c w.heap.size (w.heap.size + 1) KB AB MB M w4 (((HH.out.below HB3.out).kept (fun k hk => hb4.block k (by omega))).mono (fun k hk => by omega)) hin hM ⟨hG4, hN4, hD, by omega, by omega, k1, k2, k3⟩
    rw [← HR.out] at hc
    have HC := hid hc
    have HB4 := hid (HB3.out.trans (hb4.mono HB3.out.size))
    have HML : Hid (w.heap.size ≤ M) := hid (by have := HB3.out.size; omega)
    have HM4 := hid hM.lt
    clear hc hD hM hM4 k1 k2 k3 hb4 hG4 hN4 hgl hnl
    go_wp2_with fail
    refine HC.out.mono ?_
    rintro e w5 ⟨rfl, hg5⟩
    have HB5 := hid (HB4.out.grown hg5 HB4.out.size (fun k e => by injection e with e; rw [← e]; exact HML.out))
    clear hg5
    go_wp2
    go_ret
    exact ⟨rfl, HB5.out⟩
end Go.Proofs.YtigdcgklpapfbaaGreatDoor.S10

set_option linter.unusedVariables false
namespace Go.Proofs.YtigdcgklpapfbaaGreatDoor.S3
open Go Go.Proofs Go.RowKit Go.Lib

theorem take_eq_succ (la lb : List Str) (i : Nat) (hi : i < la.length) (hl : la.length = lb.length) (h : la.take i = lb.take i) : (la.take (i + 1) = lb.take (i + 1)) ↔ la[i] = lb[i]'(by omega) := by
  rw [List.take_add_one, List.take_add_one, List.getElem?_eq_getElem hi, List.getElem?_eq_getElem (show i < lb.length by omega), h]
  constructor
  · intro e
    simpa using List.append_cancel_left e
  · intro e
    rw [e]

set_option maxHeartbeats 2000000 in
set_option maxRecDepth 100000 in
theorem sameStrings_any (A A' : Option Addr) (la lb : List Str) (ca cb : Nat) (P P' : Nat → Prop) (w : World) (ha : StrsIn w P A la) (hb : StrsIn w P' A' lb) (h63 : la.length ≤ 9223372036854775807) :
    Calls Tryz.prog 55 #[.slice A la.length ca, .slice A' lb.length cb] w fun e w' => e = .returned (.bool (decide (la = lb))) ∧ ∃ q, w' = w.drewN q := by
  by_cases hl : la.length = lb.length
  · have hlz : ((la.length : Int) != (lb.length : Int)) = false := by simp [hl]
    obtain ⟨ANS, hANS⟩ : ∃ ANS, decide (la = lb) = ANS := ⟨_, rfl⟩
    rw [hANS]
    have HA := hid ha
    have HB := hid hb
    have HL := hid hl
    have HANS := hid hANS
    clear ha hb hl hANS
    go_enter Tryz.func55, Tryz.ntmps55
    go_wp2
    go_loopw [5] (fun iv wr => ∃ i : Nat, iv = .int .i64 (i : Int) ∧ i ≤ la.length ∧ Hid (la.take i = lb.take i) ∧ ∃ q, wr = w.drewN q) (fun iv _ => la.length - (RowKit.intOf iv).toNat)
    case atStart => exact ⟨0, rfl, Nat.zero_le _, hid rfl, 0, rfl⟩
    case round =>
      obtain ⟨i, rfl, hi, ht, q, rfl⟩ := hrel
      by_cases hlt : i < la.length
      · have hltz : (i : Int) < (la.length : Int) := by omega
        have hlt' : i < lb.length := by rw [← HL.out]; exact hlt
        have hltz' : (i : Int) < (lb.length : Int) := by omega
        obtain ⟨b1, o1, rfl, _, hc1⟩ := HA.out.at_ hlt
        obtain ⟨b2, o2, rfl, _, hc2⟩ := HB.out.at_ hlt'
        have hiff := take_eq_succ la lb i hlt HL.out ht.out
        obtain ⟨x, hx⟩ : ∃ x, la[i] = x := ⟨_, rfl⟩
        obtain ⟨y, hy⟩ : ∃ y, lb[i] = y := ⟨_, rfl⟩
        rw [hx] at hc1 hiff
        rw [hy] at hc2 hiff
        obtain ⟨X, hX⟩ : ∃ X : ByteArray, (⟨x.toArray⟩ : ByteArray) = X := ⟨_, rfl⟩
        obtain ⟨Y, hY⟩ : ∃ Y : ByteArray, (⟨y.toArray⟩ : ByteArray) = Y := ⟨_, rfl⟩
        have hXl : X.toList = x := by rw [Lib.toList_data, ← hX]
        have hYl : Y.toList = y := by rw [Lib.toList_data, ← hY]
        have e1 : strV x = .string X := by rw [← hX]; rfl
        have e2 : strV y = .string Y := by rw [← hY]; rfl
        rw [e1] at hc1
        rw [e2] at hc2
        have HIFF := hid hiff
        have HX := hid hx
        have HY := hid hy
        by_cases hxy : x = y
        · have hbe : (X.toList != Y.toList) = false := by rw [hXl, hYl, hxy]; simp
          have hbe2 : (X.toList == Y.toList) = true := by rw [hXl, hYl, hxy]; simp
          clear hiff hx hy hX hY hXl hYl e1 e2
          go_wp2
          go_quiet (fail)
          go_wp2
          go_roundw
          case rel => exact ⟨i + 1, by go_num, by omega, hid (HIFF.out.2 hxy), q + nq, rfl⟩
          case measure => simp [RowKit.intOf]; omega
        · have hbe : (X.toList != Y.toList) = true := by rw [hXl, hYl]; simpa using hxy
          have hbe2 : (X.toList == Y.toList) = false := by rw [hXl, hYl]; simpa using hxy
          have hf : ANS = false := by
            rw [← HANS.out]
            apply decide_eq_false
            intro e
            subst e
            exact hxy (by rw [← HX.out, ← HY.out])
          subst hf
          clear hiff hx hy hX hY hXl hYl e1 e2
          go_wp2
          go_quiet (fail)
          go_wp2
          go_ret
          exact ⟨rfl, q + nq, by rw [World.drewN_drewN]⟩
      · have hltz : ¬ (i : Int) < (la.length : Int) := by omega
        have hf : ANS = true := by
          rw [← HANS.out]
          apply decide_eq_true
          have h := ht.out
          rwa [List.take_of_length_le (by omega), List.take_of_length_le (by have := HL.out; omega)] at h
        subst hf
        go_wp2
        go_ret
        exact ⟨rfl, q, rfl⟩
  · have hlz : ((la.length : Int) != (lb.length : Int)) = true := by simp; omega
    have hf : decide (la = lb) = false := decide_eq_false (fun e => hl (by rw [e]))
    rw [hf]
    clear ha hb
    go_enter Tryz.func55, Tryz.ntmps55
    go_wp2
    go_ret
    exact ⟨rfl, 0, rfl⟩
end Go.Proofs.YtigdcgklpapfbaaGreatDoor.S3

set_option linter.unusedVariables false
namespace Go.Proofs.YtigdcgklpapfbaaGreatDoor
open Go Go.Proofs Go.RowKit Go.Lib

/-- The slice at A holds slices that hold the lists ls, all in blocks with P. -/
def RowsIn (w : World) (P : Nat → Prop) (A : Option Addr) (ls : List (List Str)) : Prop :=
  ls = [] ∨ ∃ b off, A = some ⟨b, off, none⟩ ∧ P b ∧ ∀ (j : Nat) (l : List Str), ls[j]? = some l → ∃ A' c', w.cell? ⟨b, off + j, none⟩ = some (.slice A' l.length c') ∧ l.length ≤ c' ∧ c' ≤ 9223372036854775807 ∧ S3.StrsIn w P A' l
theorem RowsIn.kept {w w' : World} {P : Nat → Prop} {A : Option Addr} {ls : List (List Str)} (h : RowsIn w P A ls) (hk : ∀ b, P b → w'.heap[b]? = w.heap[b]?) : RowsIn w' P A ls := by
  rcases h with h | ⟨b, off, hA, hP, hc⟩
  · exact .inl h
  · refine .inr ⟨b, off, hA, hP, fun j l hj => ?_⟩
    obtain ⟨A', c', h1, h2, h3, h4⟩ := hc j l hj
    exact ⟨A', c', (World.cell?_of_block (w := w) (hk b hP)).trans h1, h2, h3, h4.kept hk⟩
theorem RowsIn.mono {w : World} {P P' : Nat → Prop} {A : Option Addr} {l : List (List Str)} (h : RowsIn w P A l) (hP : ∀ b, P b → P' b) : RowsIn w P' A l := by
  rcases h with h | ⟨b, off, hA, hb, hc⟩
  · exact .inl h
  · refine .inr ⟨b, off, hA, hP b hb, fun j r hj => ?_⟩
    obtain ⟨A', c', h1, h2, h3, h4⟩ := hc j r hj
    exact ⟨A', c', h1, h2, h3, h4.mono hP⟩
theorem RowsIn.below {w w' : World} {B : Nat} {A : Option Addr} {l : List (List Str)} (h : RowsIn w (fun b => b < B) A l) (hb : Below B w w') : RowsIn w' (fun b => b < B) A l := h.kept fun b hB => hb.block b hB
theorem RowsIn.at_ {w : World} {P : Nat → Prop} {A : Option Addr} {ls : List (List Str)} (h : RowsIn w P A ls) {k : Nat} (hk : k < ls.length) :
    ∃ b off A' c', A = some ⟨b, off, none⟩ ∧ P b ∧ w.cell? ⟨b, off + k, none⟩ = some (.slice A' ls[k].length c') ∧ ls[k].length ≤ c' ∧ c' ≤ 9223372036854775807 ∧ S3.StrsIn w P A' ls[k] := by
  rcases h with h | ⟨b, off, hA, hP, hc⟩
  · subst h; simp at hk
  · obtain ⟨A', c', h1, h2, h3, h4⟩ := hc k _ (List.getElem?_eq_getElem hk)
    exact ⟨b, off, A', c', hA, hP, h1, h2, h3, h4⟩
end Go.Proofs.YtigdcgklpapfbaaGreatDoor
