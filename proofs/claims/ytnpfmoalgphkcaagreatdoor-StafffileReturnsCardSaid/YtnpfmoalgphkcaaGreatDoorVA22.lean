/-
  The place of a lecturer, and whether one is there, by the specification: Index, Clear, Free. Conditions: the lecturers lie in memory.
  Entries with different codes: the function that Distinct of package entries returns, at lecturers. Conditions: the map is one of the call's own, with the codes l; the code fits into memory.
  The first error of rooms: isFrame and Valid of roomfile. Conditions: the rooms lie in memory.
  A lecturer alone: check of stafffile; lists of lecturers: Check of package entries, Valid of stafffile. Conditions: the lecturers lie in memory.
-/
import Derived.Test.YtnpfmoalgphkcaaGreatDoorVA21
import Derived.Test.YtnpfmoalgphkcaaGreatDoorVA19
import Derived.Test.YtnpfmoalgphkcaaGreatDoorVA20
import Derived.StillTailTactics
import Derived.Shelf.Abstract
set_option linter.unusedVariables false
namespace Go.Proofs.YtnpfmoalgphkcaaGreatDoor
open Go Go.Proofs Go.RowKit Go.Lib

/-- The first place, -1 if there is none. -/
def idxG : List Str → Str → Nat → Int
  | [], _, _ => -1
  | x :: r, c, k => if x = c then (k : Int) else idxG r c (k + 1)
theorem idxG_spec : ∀ (l : List Str) (c : Str) (k : Nat), (c ∉ l ∧ idxG l c k = -1) ∨ ∃ j, ∃ hj : j < l.length, l[j] = c ∧ (∀ m, ∀ hm : m < j, l[m]'(by omega) ≠ c) ∧ idxG l c k = (k : Int) + j
  | [], c, k => .inl ⟨by simp, rfl⟩
  | x :: r, c, k => by
    unfold idxG
    by_cases h : x = c
    · rw [if_pos h]
      exact .inr ⟨0, by simp, h, fun m hm => by omega, by simp⟩
    · rw [if_neg h]
      rcases idxG_spec r c (k + 1) with ⟨h1, h2⟩ | ⟨j, hj, h1, h2, h3⟩
      · exact .inl ⟨by simp [Ne.symm h, h1], h2⟩
      · refine .inr ⟨j + 1, by simpa using hj, by simpa using h1, fun m hm => ?_, by rw [h3]; push_cast; omega⟩
        cases m with
        | zero => simpa using h
        | succ m => simpa using h2 m (by omega)
theorem idxG_lt (l : List Str) (i : Nat) (hi : i < l.length) : (idxG l l[i] 0 < (i : Int)) ↔ l[i] ∈ l.take i := by
  rcases idxG_spec l l[i] 0 with ⟨h1, h2⟩ | ⟨j, hj, h1, h2, h3⟩
  · exact absurd (List.getElem_mem hi) h1
  · rw [h3]
    constructor
    · intro h
      have hji : j < i := by omega
      rw [← h1]
      exact List.mem_take_iff_getElem.2 ⟨j, by omega, rfl⟩
    · intro h
      obtain ⟨m, hm, he⟩ := List.mem_take_iff_getElem.1 h
      by_cases hjm : j ≤ m
      · omega
      · exact absurd he (h2 m (by omega))
theorem codesL_drop (l : List LectD) (k : Nat) (h : k < l.length) : codesL (l.drop k) = l[k].1 :: codesL (l.drop (k + 1)) := by
  rw [List.drop_eq_getElem_cons h]; rfl

set_option maxHeartbeats 4000000 in
set_option maxRecDepth 100000 in
theorem rindex_any (A : Option Addr) (l : List LectD) (c : Nat) (s : ByteArray) (w : World) (h : LectsIn w (fun k => k < w.heap.size) A l) (hl63 : l.length ≤ 9223372036854775807) :
    Calls Tryz.prog 45 #[.slice A l.length c, .string s] w fun e w' => e = .returned (.int .i64 (idxG (codesL l) (lst s) 0)) ∧ w = w' := by
  obtain ⟨R, hR⟩ : ∃ R, idxG (codesL l) (lst s) 0 = R := ⟨_, rfl⟩
  rw [hR]
  have HR : Hid (idxG (codesL (l.drop 0)) (lst s) 0 = R) := hid hR
  have HH := hid h
  clear hR h
  go_enter Tryz.func45, Tryz.ntmps45
  go_wp2
  go_loop [5] (fun iv => ∃ k : Nat, iv = .int .i64 (k : Int) ∧ k ≤ l.length ∧ Hid (idxG (codesL (l.drop k)) (lst s) k = R)) (fun iv => l.length - (RowKit.intOf iv).toNat)
  case atStart => exact ⟨0, rfl, Nat.zero_le _, HR⟩
  case round =>
    obtain ⟨k, rfl, hk, hE⟩ := hrel
    by_cases hlt : k < l.length
    · have hltz : (k : Int) < (l.length : Int) := by omega
      have dk : decide (l.length ≤ k) = false := decide_eq_false (by omega)
      obtain ⟨fb, fo, q, rfl, hfb, hri, y0, y1⟩ := HH.out.at_ hlt
      have hst := hE.out
      rw [codesL_drop l k hlt] at hst
      unfold idxG at hst
      obtain ⟨Y, hY⟩ : ∃ Y, ba l[k].1 = Y := ⟨_, rfl⟩
      have hYl : lst Y = l[k].1 := by rw [← hY]; rfl
      rw [hY] at y0
      have ty : Y.toList = lst Y := Lib.toList_data Y
      have ts : s.toList = lst s := Lib.toList_data s
      rw [← hYl] at hst
      clear hri hY hYl
      by_cases he : lst Y = lst s
      · rw [if_pos he] at hst
        have b1 : (Y.toList == s.toList) = true := by rw [ty, ts, he]; simp
        have b2 : (Y.toList != s.toList) = false := by rw [ty, ts, he]; simp
        have HRR := hid hst.symm
        clear hst ty ts he
        go_wp2
        go_ret
        exact ⟨by rw [HRR.out]; rfl, rfl⟩
      · rw [if_neg he] at hst
        have b1 : (Y.toList == s.toList) = false := by rw [ty, ts]; simpa using he
        have b2 : (Y.toList != s.toList) = true := by rw [ty, ts]; simpa using he
        have HRR := hid hst
        clear hst ty ts he
        go_wp2
        go_round
        case rel => exact ⟨k + 1, by go_num, by omega, HRR⟩
        case measure => simp [RowKit.intOf]; omega
    · have hltz : ¬ (k : Int) < (l.length : Int) := by omega
      have hst := hE.out
      rw [List.drop_of_length_le (by omega)] at hst
      have HRR : Hid (R = -1) := hid hst.symm
      clear hst
      go_wp2
      go_ret
      exact ⟨by rw [HRR.out]; rfl, rfl⟩

set_option maxHeartbeats 4000000 in
set_option maxRecDepth 100000 in
theorem rclear_any (A : Option Addr) (l : List TimeD) (c : Nat) (t : TimeD) (ht : t.2.2.1 ≤ 9223372036854775807) (w : World) (h : TimesIn w (fun b => b < w.heap.size) A l) (hl63 : l.length ≤ 9223372036854775807) :
    Calls Tryz.prog 34 #[.slice A l.length c, timeV t] w (Says (.bool (clearM l t)) w) := by
  obtain ⟨k', y', t', l'⟩ := t
  unfold Says timeV
  dsimp only at ht ⊢
  obtain ⟨R, hR⟩ : ∃ R, clearM l (k', y', t', l') = R := ⟨_, rfl⟩
  rw [hR]
  have HR : Hid (clearM (l.drop 0) (k', y', t', l') = R) := hid hR
  have hk := K1.first w k' y' t' l' 26
  have HK := hid hk
  have HH := hid h
  have cO := hid (fun (k y t u : Int) (h : t ≤ 9223372036854775807) (w : World) => roverlap_any k y t u k' y' t' l' w)
  clear hk h hR
  go_enter Tryz.func34, Tryz.ntmps34
  go_wp2
  go_loopw [5] (fun iv wr => ∃ k : Nat, iv = .int .i64 (k : Int) ∧ k ≤ l.length ∧ Hid (clearM (l.drop k) (k', y', t', l') = R) ∧ Hid (K1 w k' y' t' l' wr)) (fun iv _ => l.length - (RowKit.intOf iv).toNat)
  case atStart => exact ⟨0, rfl, Nat.zero_le _, HR, HK⟩
  case round =>
    obtain ⟨k, rfl, hk, hE, hK⟩ := hrel
    by_cases hlt : k < l.length
    · have hltz : (k : Int) < (l.length : Int) := by omega
      have dk : decide (l.length ≤ k) = false := decide_eq_false (by omega)
      have hHH := HH.out.below hK.out.b
      have hle := hHH.le hlt
      obtain ⟨tb, tf, rfl, htb, t0, t1, t2, t3⟩ := hHH.at_ hlt
      have hst := hE.out
      unfold clearM at hst
      rw [List.drop_eq_getElem_cons hlt, List.any_cons, Bool.not_or] at hst
      obtain ⟨⟨a0, a1, a2, a3⟩, ha⟩ : ∃ x, l[k] = x := ⟨_, rfl⟩
      rw [ha] at t0 t1 t2 t3 hle hst
      dsimp only at t0 t1 t2 t3 hle hst
      obtain ⟨O, hO⟩ : ∃ O, overB a0 a1 a2 a3 k' y' t' l' = O := ⟨_, rfl⟩
      have CO := cO.out a0 a1 a2 a3 hle
      unfold Says at CO
      rw [hO] at hst CO
      have HCO := hid CO
      have hKD : Hid (K1 w k' y' t' l' wr.drew) := hid (hK.out.next (Below.refl _ _).drew)
      obtain ⟨g0, g1, g2, g3, _⟩ := id hK.out.x
      have HST := hid hst
      clear ha hO hst CO hHH hle
      go_upto_region 4 with fail
      go_still_tail 5, (by kernel_rfl)
      change wpList _ _ _ _ _ wr.drew
      go_wp2_with fail
      refine (HCO.out _).mono ?_
      rintro e w3 ⟨rfl, hb3⟩
      have HK3 := hid (hKD.out.next hb3)
      clear hb3 g0 g1 g2 g3 t0 t1 t2 t3
      cases O with
      | true =>
        have HRR : Hid (R = false) := hid (by have := HST.out; simpa using this.symm)
        go_wp2
        go_ret
        exact ⟨by rw [HRR.out]; rfl, HK3.out.b⟩
      | false =>
        have HRR : Hid (clearM (l.drop (k + 1)) (k', y', t', l') = R) := hid (by have := HST.out; simpa [clearM] using this)
        go_wp2
        go_roundw
        case rel => exact ⟨k + 1, by go_num, by omega, HRR, HK3⟩
        case measure => simp [RowKit.intOf]; omega
    · have hltz : ¬ (k : Int) < (l.length : Int) := by omega
      have hst := hE.out
      rw [List.drop_of_length_le (by omega)] at hst
      have HRR : Hid (R = true) := hid hst.symm
      clear hst
      go_wp2
      go_ret
      exact ⟨by rw [HRR.out]; rfl, hK.out.b⟩
set_option maxHeartbeats 8000000 in
set_option maxRecDepth 100000 in
/-- Free of the specification. -/
theorem rfree_any (x : LectD) (q : LectA) (t : TimeD) (ht : t.2.2.1 ≤ 9223372036854775807) (w : World) (h : LectIn w (fun b => b < w.heap.size) x q) :
    Calls Tryz.prog 11 #[lectV x q, timeV t] w (Says (.bool (clearM x.2 t)) w) := by
  have hX := Box2.new w (.string (ba x.1)) (.slice q.1 x.2.length q.2)
  have hb1 := (Below.refl w.heap.size w).alloc (Nat.le_refl _) (.cells #[.string (ba x.1), .slice q.1 x.2.length q.2] 34)
  have hs1 : (w.alloc (.cells #[.string (ba x.1), .slice q.1 x.2.length q.2] 34)).heap.size = w.heap.size + 1 := by simp
  obtain ⟨w1, hw1⟩ : ∃ w1, w.alloc (.cells #[.string (ba x.1), .slice q.1 x.2.length q.2] 34) = w1 := ⟨_, rfl⟩
  rw [hw1] at hX hb1 hs1
  have hb2 := (Below.refl w1.heap.size w1).alloc (Nat.le_refl _) (.cells #[.int .i64 t.1, .int .i64 t.2.1, .int .i64 t.2.2.1, .int .i64 t.2.2.2] 26)
  obtain ⟨w2, hw2⟩ : ∃ w2, w1.alloc (.cells #[.int .i64 t.1, .int .i64 t.2.1, .int .i64 t.2.2.1, .int .i64 t.2.2.2] 26) = w2 := ⟨_, rfl⟩
  rw [hw2] at hb2
  have hb := hb1.trans (hb2.mono (by omega))
  have cT := rclear_any q.1 x.2 q.2 t ht w2 ((h.t.below hb).mono (fun k hk => Nat.lt_of_lt_of_le hk hb.size)) (Nat.le_trans h.t1 h.t2)
  unfold Says lectV timeV at *
  obtain ⟨R, hR⟩ : ∃ R, clearM x.2 t = R := ⟨_, rfl⟩
  rw [hR] at cT ⊢
  obtain ⟨t0, t1, t2, t3⟩ := t
  obtain ⟨x0, x1⟩ := x
  dsimp only at *
  obtain ⟨F, hF⟩ : ∃ F, x1.length = F := ⟨_, rfl⟩
  obtain ⟨X, hXe⟩ : ∃ X, ba x0 = X := ⟨_, rfl⟩
  rw [hF] at cT ⊢
  rw [hXe] at ⊢
  rw [hF, hXe] at hw1
  have CT := hid cT
  have HB := hid hb
  have HW1 := hid hw1
  have HW2 := hid hw2
  clear cT hX hb1 hb2 hs1 h hR hw1 hw2 ht hb hF hXe
  go_enter Tryz.func11, Tryz.ntmps11
  go_wp2_with fail
  (try rw [HW1.out])
  (try rw [HW2.out])
  refine CT.out.mono ?_
  rintro e w' ⟨rfl, hb3⟩
  have HB3 := hid (HB.out.trans (hb3.mono HB.out.size))
  clear hb3
  go_wp2
  go_ret
  exact ⟨rfl, HB3.out⟩
end Go.Proofs.YtnpfmoalgphkcaaGreatDoor

set_option linter.unusedVariables false
namespace Go.Proofs.YtnpfmoalgphkcaaGreatDoor
open Go Go.Proofs Go.RowKit Go.Lib
open Go.Maps (Keyed string_keyed)
open Go.WideMaps (keyOf_string_mk)

/-- How a lecturer reads in the map of known ones: all that matters is that it is one. -/
def aggL : Value → Option (DataW Unit × List MemPlace)
  | .agg ⟨[.string _, .slice _ _ _]⟩ => some (.agg [], [])
  | _ => none
theorem aggL_mk (a : ByteArray) (A1 : Option Addr) (n1 c1 : Nat) : aggL (.agg #[.string a, .slice A1 n1 c1]) = some (.agg [], []) := rfl
theorem aggL_inv {v : Value} {z : DataW Unit × List MemPlace} (h : aggL v = some z) : ∃ (a : ByteArray) (A1 : Option Addr) (n1 c1 : Nat), v = .agg #[.string a, .slice A1 n1 c1] := by
  unfold aggL at h
  split at h
  · exact ⟨_, _, _, _, rfl⟩
  · cases h
/-- Block B is the map of the lecturers with the codes l. -/
structure KMap (w : World) (B : Nat) (l : List Str) : Prop where
  own : w.ownsMap Tryz.prog 9 aggL B l.length (setR l)
  sz : Maps.size (setR l) = l.length
theorem KMap.made (w : World) : KMap (w.alloc (.map #[] 0)) w.heap.size [] := ⟨World.ownsMap_made _ _ _ _, rfl⟩
theorem KMap.kept {w w' : World} {B : Nat} {l : List Str} {row : Option Nat} (h : KMap w B l) (hg : w.grownBy w' row) (hne : some B ≠ row) : KMap w' B l := ⟨h.own.kept hg hne, h.sz⟩
theorem KMap.below {w w' : World} {B : Nat} {l : List Str} (h : KMap w B l) (hb : Below w.heap.size w w') : KMap w' B l := h.kept (below_grown hb (Nat.le_refl _)) (by simp)
theorem KMap.lt {w : World} {B : Nat} {l : List Str} (h : KMap w B l) : B < w.heap.size := h.own.lt
theorem zeroLect (w : World) : (zeroValue 34).run Tryz.prog w = .ok (.agg #[.string ⟨#[]⟩, .slice none 0 0]) w := by kernel_rfl
theorem wpList_lookup_lect {P : Program} (w : World) {ops : Array Oper} {rest : List Oper} {o : Oper} {a : Act} {Q : Exit → Act → World → Prop} (hg : o.guard = none) (m x : Operand) (t : TypeId) (hop : o.op = Op.lookup t m x true)
    (k e : TypeId) (K : Keyed P k) (ht : P.underlying t = some (.map k e)) {z : Value} (hz : (zeroValue e).run P w = .ok z w) (hzd : aggL z = some (.agg [], [])) (b n : Nat) (D : DataW Unit)
    (hm : a.eval m = .map (some b)) (hown : w.ownsMap P k aggL b n D) (key : Value) (kl : Lit) (hx : a.eval x = key) (hkey : keyOf P k key = some kl)
    (hK : ∀ (x : ByteArray) (A1 : Option Addr) (n1 c1 : Nat), wpList P ops Q rest (a.put o.dst (.tuple #[.agg #[.string x, .slice A1 n1 c1], .bool (Maps.has D kl)])) w) :
    wpList P ops Q (o :: rest) a w :=
  wpList_lookup_own_ok w hg m x t hop k e K ht aggL hz (.agg []) [] hzd b n D hm hown key kl hx hkey (fun v ps hv => by
    obtain ⟨x, A1, n1, c1, rfl⟩ := aggL_inv hv
    exact hK x A1 n1 c1)
def addK (most : Nat) (l : List Str) (c : Str) : List Str × Int := if c ∈ l then (l, 11) else if l.length = most then (l, 2) else (l ++ [c], 0)
/-- What the function leaves behind. -/
def AddOutK (most : Nat) (l : List Str) (c : Str) (B : Nat) (w : World) (e : Ending) (w' : World) : Prop := e = .returned (.int .i64 (addK most l c).2) ∧ KMap w' B (addK most l c).1 ∧ w.grownBy w' (some B)
/-- What the function has captured. -/
structure DistIn (w : World) (KB AB MB M : Nat) : Prop where
  k : Box1 w KB 73 (.func (.func 41) #[] #[])
  a : Box1 w AB 102 (.map (some M))
  m : Box1 w MB 3 (.int .i64 32)
theorem DistIn.kept {w w' : World} {KB AB MB M : Nat} (h : DistIn w KB AB MB M) (hk : ∀ b, b = KB ∨ b = AB ∨ b = MB → w'.heap[b]? = w.heap[b]?) : DistIn w' KB AB MB M :=
  ⟨h.k.kept (hk _ (.inl rfl)), h.a.kept (hk _ (.inr (.inl rfl))), h.m.kept (hk _ (.inr (.inr rfl)))⟩
theorem DistIn.next {w w' : World} {KB AB MB M : Nat} (h : DistIn w KB AB MB M) (hb : Below w.heap.size w w') : DistIn w' KB AB MB M := ⟨h.k.next hb, h.a.next hb, h.m.next hb⟩

set_option maxHeartbeats 1000000 in
theorem codeOf_any (c : ByteArray) (A1 : Option Addr) (n1 c1 : Nat) (w : World) : Calls Tryz.prog 41 #[.agg #[.string c, .slice A1 n1 c1]] w fun e w' => e = .returned (.string c) ∧ Below w.heap.size w w' := by
  go_enter Tryz.func41, Tryz.ntmps41
  go_wp2
  go_ret
  exact ⟨rfl, (Below.refl _ _).alloc (Nat.le_refl _) _⟩

set_option maxHeartbeats 4000000 in
set_option maxRecDepth 100000 in
theorem dist_any (KB AB MB M : Nat) (l : List Str) (c : ByteArray) (A1 : Option Addr) (n1 c1 : Nat) (hl : l.length ≤ 32) (hc : c.size ≤ maxLen) (w : World) (hD : DistIn w KB AB MB M) (h : KMap w M l) :
    Calls Tryz.prog 65 #[.agg #[.string c, .slice A1 n1 c1], .pointer (some ⟨KB, 0, none⟩), .pointer (some ⟨AB, 0, none⟩), .pointer (some ⟨MB, 0, none⟩)] w (AddOutK 32 l (lst c) M w) := by
  have eg : ∀ args w, (callFunc 41 args).run Tryz.prog w = .ok (.enter 41 args) w := enters_of Tryz.func41 (by kernel_rfl) rfl
  unfold AddOutK addK
  have hkey : keyOf Tryz.prog 9 (.string c) = some (litS (lst c)) := keyOf_string_mk Tryz.underlying9 hc
  have hhas := has_setR l (lst c)
  have hBl := h.lt
  have hb1 := (Below.refl w.heap.size w).alloc (Nat.le_refl _) (.cells #[.string c, .slice A1 n1 c1] 34)
  have hX := Box2.new w (.string c) (.slice A1 n1 c1)
  obtain ⟨w1, hw1⟩ : ∃ w1, w.alloc (.cells #[.string c, .slice A1 n1 c1] 34) = w1 := ⟨_, rfl⟩
  rw [hw1] at hb1 hX
  have hD1 := hD.next hb1
  have hM1 := h.below hb1
  have hkl := hD.k.lt
  have hkc := hD.k.cell
  have hk1 : (w.alloc (.cells #[.string c, .slice A1 n1 c1] 34)).cell? ⟨KB, 0, none⟩ = some (.func (.func 41) #[] #[]) := Lib.cell?_alloc_some _ hkc
  have H1 := hid hM1
  have HD1 := hid hD1
  have HX := hid hX
  have HB1 := hid hb1
  have HKEY := hid hkey
  have HW1 := hid hw1
  clear hM1 hD1 hX hb1 hkey hw1 h hD hkl hkc
  by_cases hm : lst c ∈ l
  · rw [if_pos hm]
    rw [decide_eq_true hm] at hhas
    have HHAS := hid hhas
    clear hhas hm
    go_enter Tryz.func65, Tryz.ntmps65
    go_wp2_with fail
    rw [HW1.out]
    refine (codeOf_any c A1 n1 c1 w1).mono ?_
    rintro e w2 ⟨rfl, hb2⟩
    have hD2 := HD1.out.next hb2
    have hM2 := H1.out.below hb2
    have hX2 := HX.out.next hb2
    obtain ⟨x0, x1⟩ := hX2.cells
    have a0 := hD2.a.cell
    have m0 := hD2.m.cell
    have al := hD2.a.lt
    have ml := hD2.m.lt
    have xl := hX2.lt
    have HB2 := hid (HB1.out.trans (hb2.mono HB1.out.size))
    have H2 := hid hM2
    clear hb2 hD2 hM2 hX2 hk1
    obtain ⟨W2, hW2⟩ : ∃ W2, W2 = w2 := ⟨_, rfl⟩
    clear hW2
    go_wp2_with (first
      | (at_lookup; refine wpList_lookup_lect _ rfl _ _ 102 rfl 9 34 law9 Tryz.underlying102 (zeroLect _) (aggL_mk _ _ _ _) M l.length (setR l) rfl H2.out.own _ _ rfl HKEY.out ?_; intro u0 u1 u2 u3; rw [HHAS.out])
      | go_in)
    go_ret
    exact ⟨rfl, H2.out.below ((Below.refl _ _).alloc (Nat.le_refl _) _), grown_none (below_grown (HB2.out.trans ((Below.refl _ _).alloc HB2.out.size _)) (Nat.le_refl _))⟩
  · rw [if_neg hm]
    rw [decide_eq_false hm] at hhas
    have HHAS := hid hhas
    have hsz := H1.out.sz
    by_cases h16 : l.length = 32
    · rw [if_pos h16]
      rw [h16] at hsz
      have HSZ := hid hsz
      clear hhas hsz hm
      go_enter Tryz.func65, Tryz.ntmps65
      go_wp2_with fail
      rw [HW1.out]
      refine (codeOf_any c A1 n1 c1 w1).mono ?_
      rintro e w2 ⟨rfl, hb2⟩
      have hD2 := HD1.out.next hb2
      have hM2 := H1.out.below hb2
      have hX2 := HX.out.next hb2
      obtain ⟨x0, x1⟩ := hX2.cells
      have a0 := hD2.a.cell
      have m0 := hD2.m.cell
      have al := hD2.a.lt
      have ml := hD2.m.lt
      have xl := hX2.lt
      have HB2 := hid (HB1.out.trans (hb2.mono HB1.out.size))
      have H2 := hid hM2
      clear hb2 hD2 hM2 hX2 hk1
      obtain ⟨W2, hW2⟩ : ∃ W2, W2 = w2 := ⟨_, rfl⟩
      clear hW2
      go_wp2_with (first
        | (at_lookup; refine wpList_lookup_lect _ rfl _ _ 102 rfl 9 34 law9 Tryz.underlying102 (zeroLect _) (aggL_mk _ _ _ _) M l.length (setR l) rfl H2.out.own _ _ rfl HKEY.out ?_; intro u0 u1 u2 u3; rw [HHAS.out])
        | (at_len; refine wpList_len_own _ rfl _ 102 rfl 9 34 Tryz.underlying102 aggL M l.length (setR l) rfl (H2.out.own.alloc _) ?_; rw [HSZ.out])
        | go_in)
      go_ret
      exact ⟨rfl, H2.out.below ((Below.refl _ _).alloc (Nat.le_refl _) _), grown_none (below_grown (HB2.out.trans ((Below.refl _ _).alloc HB2.out.size _)) (Nat.le_refl _))⟩
    · rw [if_neg h16]
      have HSZ := hid hsz
      have h16z : ((l.length : Nat) : Int) ≠ 32 := by omega
      have h16b : (((l.length : Nat) : Int) == 32) = false := by simpa using h16z
      clear hhas hsz hm
      go_enter Tryz.func65, Tryz.ntmps65
      go_wp2_with fail
      rw [HW1.out]
      refine (codeOf_any c A1 n1 c1 w1).mono ?_
      rintro e w2 ⟨rfl, hb2⟩
      have hD2 := HD1.out.next hb2
      have hM2 := H1.out.below hb2
      have hX2 := HX.out.next hb2
      obtain ⟨x0, x1⟩ := hX2.cells
      have a0 := hD2.a.cell
      have m0 := hD2.m.cell
      have al := hD2.a.lt
      have ml := hD2.m.lt
      have xl := hX2.lt
      have HB2 := hid (HB1.out.trans (hb2.mono HB1.out.size))
      have H2 := hid hM2
      clear hb2 hD2 hM2 hX2 hk1
      obtain ⟨W2, hW2⟩ : ∃ W2, W2 = w2 := ⟨_, rfl⟩
      clear hW2
      go_wp2_with (first
        | (at_lookup; refine wpList_lookup_lect _ rfl _ _ 102 rfl 9 34 law9 Tryz.underlying102 (zeroLect _) (aggL_mk _ _ _ _) M l.length (setR l) rfl H2.out.own _ _ rfl HKEY.out ?_; intro u0 u1 u2 u3; rw [HHAS.out])
        | (at_len; refine wpList_len_own _ rfl _ 102 rfl 9 34 Tryz.underlying102 aggL M l.length (setR l) rfl (H2.out.own.alloc _) ?_; rw [HSZ.out])
        | (at_mapUpdate; refine wpList_mapUpdate_own _ rfl _ _ _ 102 rfl 9 34 law9 Tryz.underlying102 aggL M l.length (setR l) rfl (H2.out.own.alloc _) (by unfold maxLen; omega) _ _ _ rfl rfl HKEY.out _ [] (aggL_mk _ _ _ _) ?_; intro w3 hown3 hgrow3)
        | go_in)
      go_ret
      refine ⟨rfl, ⟨?_, ?_⟩, ?_⟩
      · rw [setR_snoc, List.length_append, List.length_singleton]
        exact hown3
      · rw [setR_snoc, Maps.size_put (H2.out.own.tidy law9), HHAS.out, HSZ.out, List.length_append, List.length_singleton]
        rfl
      · exact (grown_none (below_grown (HB2.out.trans ((Below.refl _ _).alloc HB2.out.size _)) (Nat.le_refl _))).andThen hgrow3 (fun j hj => .inr hj)

/-- What Distinct leaves behind. -/
def DistOut (w : World) (e : Ending) (w' : World) : Prop := ∃ KB AB MB M, e = .returned (.func (.func 65) #[] #[.pointer (some ⟨KB, 0, none⟩), .pointer (some ⟨AB, 0, none⟩), .pointer (some ⟨MB, 0, none⟩)]) ∧ DistIn w' KB AB MB M ∧ KMap w' M [] ∧
  w.heap.size ≤ M ∧ KB ≠ M ∧ AB ≠ M ∧ MB ≠ M ∧ Below w.heap.size w w'
set_option maxHeartbeats 1000000 in
theorem distinct_any (w : World) : Calls Tryz.prog 40 #[.int .i64 32, .func (.func 41) #[] #[]] w (DistOut w) := by
  have hmm := @run_makeMap Tryz.prog
  go_enter Tryz.func40, Tryz.ntmps40
  go_wp2
  go_ret
  refine ⟨w.heap.size + 1, w.heap.size + 1 + 1 + 1, w.heap.size, w.heap.size + 1 + 1, rfl, ?_⟩
  have e1 := Box1.new w 3 (.int .i64 32)
  have b1 := (Below.refl w.heap.size w).alloc (Nat.le_refl _) (.cells #[.int .i64 32] 3)
  have s1 : (w.alloc (.cells #[.int .i64 32] 3)).heap.size = w.heap.size + 1 := by simp
  generalize w.alloc (.cells #[.int .i64 32] 3) = w1 at e1 b1 s1 ⊢
  have e2 := Box1.new w1 73 (.func (.func 41) #[] #[])
  have b2 := (Below.refl w1.heap.size w1).alloc (Nat.le_refl _) (.cells #[.func (.func 41) #[] #[]] 73)
  have s2 : (w1.alloc (.cells #[.func (.func 41) #[] #[]] 73)).heap.size = w.heap.size + 1 + 1 := by simp [s1]
  rw [s1] at e2
  generalize w1.alloc (.cells #[.func (.func 41) #[] #[]] 73) = w2 at e2 b2 s2 ⊢
  have e3 := KMap.made w2
  have b3 := (Below.refl w2.heap.size w2).alloc (Nat.le_refl _) (.map #[] 0)
  have s3 : (w2.alloc (.map #[] 0)).heap.size = w.heap.size + 1 + 1 + 1 := by simp [s2]
  rw [s2] at e3
  generalize w2.alloc (.map #[] 0) = w3 at e3 b3 s3 ⊢
  have e4 := Box1.new w3 102 (.map (some (w.heap.size + 1 + 1)))
  have b4 := (Below.refl w3.heap.size w3).alloc (Nat.le_refl _) (.cells #[.map (some (w.heap.size + 1 + 1))] 102)
  rw [s3] at e4
  generalize w3.alloc (.cells #[.map (some (w.heap.size + 1 + 1))] 102) = w4 at e4 b4 ⊢
  refine ⟨⟨(e2.next b3).next b4, e4, ((e1.next b2).next b3).next b4⟩, e3.below b4, by omega, by omega, by omega, by omega, ?_⟩
  exact b1.trans ((b2.mono (by omega)).trans ((b3.mono (by omega)).trans (b4.mono (by omega))))
end Go.Proofs.YtnpfmoalgphkcaaGreatDoor

set_option linter.unusedVariables false
namespace Go.Proofs.YtnpfmoalgphkcaaGreatDoor
open Go Go.Proofs Go.RowKit Go.Lib

set_option maxHeartbeats 4000000 in
set_option maxRecDepth 100000 in
theorem rframe_any (d s b m n : Int) (w : World) : Calls Tryz.prog 36 #[.agg #[.int .i64 d, .int .i64 s, .int .i64 b, .int .i64 m], .int .i64 n] w (Says (.bool (frameB d s b m n)) w) := by
  have cV := fun w => gvalid_any d s b m w
  unfold Says at cV ⊢
  have hF : frameB d s b m n = (gridB d s b m && decide (1 ≤ n) && decide (n ≤ 20)) := by
    unfold frameB
    rw [Bool.eq_iff_iff]
    simp
    constructor
    · rintro ⟨h1, h2, h3⟩; exact ⟨⟨h1, h2⟩, h3⟩
    · rintro ⟨⟨h1, h2⟩, h3⟩; exact ⟨h1, h2, h3⟩
  rw [hF]
  have hk := K1.first w d s b m 24
  have HK := hid hk
  clear hk hF
  cases hg : gridB d s b m with
  | false =>
    rw [hg, if_neg (by simp)] at cV
    clear hg
    go_enter Tryz.func36, Tryz.ntmps36
    go_wp2_with fail
    refine (cV _).mono ?_
    rintro e w1 ⟨rfl, hb⟩
    have hk := HK.out.next hb
    clear hb HK
    go_wp2
    go_ret
    exact ⟨rfl, hk.b⟩
  | true =>
    rw [hg, if_pos rfl] at cV
    clear hg
    by_cases h1 : 1 ≤ n
    · have h1d : decide (1 ≤ n) = true := decide_eq_true h1
      by_cases h2 : n ≤ 20
      · have h2d : decide (n ≤ 20) = true := decide_eq_true h2
        rw [h1d, h2d]
        go_enter Tryz.func36, Tryz.ntmps36
        go_wp2_with fail
        refine (cV _).mono ?_
        rintro e w1 ⟨rfl, hb⟩
        have hk := HK.out.next hb
        clear hb HK
        go_wp2
        go_ret
        exact ⟨rfl, hk.b⟩
      · have h2d : decide (n ≤ 20) = false := decide_eq_false h2
        rw [h1d, h2d]
        go_enter Tryz.func36, Tryz.ntmps36
        go_wp2_with fail
        refine (cV _).mono ?_
        rintro e w1 ⟨rfl, hb⟩
        have hk := HK.out.next hb
        clear hb HK
        go_wp2
        go_ret
        exact ⟨rfl, hk.b⟩
    · have h1d : decide (1 ≤ n) = false := decide_eq_false h1
      rw [h1d]
      go_enter Tryz.func36, Tryz.ntmps36
      go_wp2_with fail
      refine (cV _).mono ?_
      rintro e w1 ⟨rfl, hb⟩
      have hk := HK.out.next hb
      clear hb HK
      go_wp2
      go_ret
      exact ⟨by simp, hk.b⟩

theorem validC_len {s : Str} (h : S3.validC s = true) : s.length ≤ 16 := by
  unfold S3.validC at h
  cases s with
  | nil => simp
  | cons a r => simp at h; simp; omega
end Go.Proofs.YtnpfmoalgphkcaaGreatDoor

set_option linter.unusedVariables false
namespace Go.Proofs.YtnpfmoalgphkcaaGreatDoor
open Go Go.Proofs Go.RowKit Go.Lib

/-- What holds while a lecturer is looked at: its box, the grid's. -/
structure KL (w0 : World) (d s b m : Int) (v0 v1 : Value) (w : World) : Prop where
  x : Box2 w w0.heap.size v0 v1
  g : Box4 w (w0.heap.size + 1) d s b m
  b : Below w0.heap.size w0 w
theorem KL.first (w : World) (d s b m : Int) (v0 v1 : Value) (T : TypeId) :
    KL w d s b m v0 v1 ((w.alloc (.cells #[v0, v1] 34)).alloc (.cells #[.int .i64 d, .int .i64 s, .int .i64 b, .int .i64 m] T)) := by
  have h1 := Box2.new w v0 v1
  have hb1 := (Below.refl w.heap.size w).alloc (Nat.le_refl _) (.cells #[v0, v1] 34)
  have hs : (w.alloc (.cells #[v0, v1] 34)).heap.size = w.heap.size + 1 := by simp
  generalize w.alloc (.cells #[v0, v1] 34) = w1 at h1 hb1 hs ⊢
  have h2 := Box4.new w1 d s b m T
  have hb2 := (Below.refl w1.heap.size w1).alloc (Nat.le_refl _) (.cells #[.int .i64 d, .int .i64 s, .int .i64 b, .int .i64 m] T)
  rw [hs] at h2
  exact ⟨h1.next hb2, h2, hb1.trans (hb2.mono (by omega))⟩
theorem KL.next {w0 w w' : World} {d s b m : Int} {v0 v1 : Value} (h : KL w0 d s b m v0 v1 w) (k : Below w.heap.size w w') : KL w0 d s b m v0 v1 w' :=
  ⟨h.x.next k, h.g.next k h.g.lt, h.b.trans (k.mono h.b.size)⟩

set_option maxHeartbeats 8000000 in
set_option maxRecDepth 100000 in
theorem lcheck_any (d s b m n : Int) (x : LectD) (q : LectA) (w : World) (h : LectIn w (fun b => b < w.heap.size) x q) :
    Calls Tryz.prog 38 #[lectV x q, .agg #[.int .i64 d, .int .i64 s, .int .i64 b, .int .i64 m], .int .i64 n] w (Says (.int .i64 (lectM d s b m n x)) w) := by
  obtain ⟨code, ts⟩ := x
  obtain ⟨A2, c2⟩ := q
  obtain ⟨ht, ht1, ht2⟩ := h
  dsimp only at ht ht1 ht2
  unfold lectV Says
  dsimp only
  have hk0 := KL.first w d s b m (.string (ba code)) (.slice A2 ts.length c2) 24
  have cV1 := fun w => S3.valid_any (ba code) w
  have cT := hid (fun (w' : World) (hb : Below w.heap.size w w') => tfit_any d s b m n A2 ts c2 w' ((ht.below hb).mono (fun k hk => Nat.lt_of_lt_of_le hk hb.size)) ht1 ht2)
  obtain ⟨R, hR⟩ : ∃ R, lectM d s b m n (code, ts) = R := ⟨_, rfl⟩
  rw [hR]
  rw [show (ba code).data.toList = code from rfl] at cV1
  unfold lectM at hR
  dsimp only at hR
  obtain ⟨V1, hV1⟩ : ∃ V, S3.validC code = V := ⟨_, rfl⟩
  obtain ⟨TB, hTB⟩ : ∃ V, ts.any (unfitB d s b m n) = V := ⟨_, rfl⟩
  have cT' := cT.out
  unfold Says at cT'
  rw [hV1] at cV1 hR
  rw [hTB] at cT' hR
  have CT := hid cT'
  obtain ⟨X1, hX1⟩ : ∃ X, ba code = X := ⟨_, rfl⟩
  rw [hX1] at hk0 cV1 ⊢
  obtain ⟨T1, hT1⟩ : ∃ F, ts.length = F := ⟨_, rfl⟩
  rw [hT1] at hk0 CT hR ⊢
  clear ht cT cT' hV1 hTB hX1 ht1 hT1
  have HK0 := hid hk0
  clear hk0
  cases V1 with
  | false =>
    obtain rfl : R = 10 := by rw [← hR]; simp
    clear hR
    go_enter Tryz.func38, Tryz.ntmps38
    go_wp2_with fail
    have hk := HK0.out
    clear HK0
    generalize World.alloc _ _ = wx at hk ⊢
    obtain ⟨x0, x1⟩ := hk.x.cells
    have HK := hid hk
    clear hk
    refine (cV1 _).mono ?_
    rintro e w' ⟨rfl, rfl⟩
    go_wp2
    go_ret
    exact ⟨rfl, HK.out.b⟩
  | true =>
  rw [if_neg (by simp)] at hR
  by_cases z2 : 24 < T1
  · have z2' : (24 : Int) < (T1 : Int) := by omega
    have z2d : decide ((24 : Int) < (T1 : Int)) = true := decide_eq_true z2'
    obtain rfl : R = 2 := by rw [← hR, if_pos z2]
    clear hR
    go_enter Tryz.func38, Tryz.ntmps38
    go_wp2_with fail
    have hk := HK0.out
    clear HK0
    generalize World.alloc _ _ = wx at hk ⊢
    obtain ⟨x0, x1⟩ := hk.x.cells
    have HK := hid hk
    clear hk
    refine (cV1 _).mono ?_
    rintro e w' ⟨rfl, rfl⟩
    go_wp2
    go_ret
    exact ⟨rfl, HK.out.b⟩
  have z2' : ¬ (24 : Int) < (T1 : Int) := by omega
  have z2d : decide ((24 : Int) < (T1 : Int)) = false := decide_eq_false z2'
  rw [if_neg z2] at hR
  clear z2
  cases TB with
  | true =>
    obtain rfl : R = 14 := by rw [← hR]; simp
    clear hR
    go_enter Tryz.func38, Tryz.ntmps38
    go_wp2_with fail
    have hk := HK0.out
    clear HK0
    generalize World.alloc _ _ = wx at hk ⊢
    obtain ⟨x0, x1⟩ := hk.x.cells
    obtain ⟨g0, g1, g2, g3, _⟩ := id hk.g
    have HK := hid hk
    clear hk
    refine (cV1 _).mono ?_
    rintro e w' ⟨rfl, rfl⟩
    go_wp2_with fail
    refine (CT.out _ HK.out.b).mono ?_
    rintro e w2 ⟨rfl, hb⟩
    have HB := hid (HK.out.next hb).b
    clear hb
    go_wp2
    go_ret
    exact ⟨rfl, HB.out⟩
  | false =>
    obtain rfl : R = 0 := by rw [← hR]; simp
    clear hR
    go_enter Tryz.func38, Tryz.ntmps38
    go_wp2_with fail
    have hk := HK0.out
    clear HK0
    generalize World.alloc _ _ = wx at hk ⊢
    obtain ⟨x0, x1⟩ := hk.x.cells
    obtain ⟨g0, g1, g2, g3, _⟩ := id hk.g
    have HK := hid hk
    clear hk
    refine (cV1 _).mono ?_
    rintro e w' ⟨rfl, rfl⟩
    go_wp2_with fail
    refine (CT.out _ HK.out.b).mono ?_
    rintro e w2 ⟨rfl, hb⟩
    have HB := hid (HK.out.next hb).b
    clear hb
    go_wp2
    go_ret
    exact ⟨rfl, HB.out⟩
set_option maxHeartbeats 2000000 in
set_option maxRecDepth 100000 in
/-- The closure that checks one lecturer. -/
theorem lcheck1_any (d s b m n : Int) (x : LectD) (q : LectA) (G N : Nat) (w : World) (hG : Box4 w G d s b m) (hN : w.cell? ⟨N, 0, none⟩ = some (.int .i64 n)) (hNl : N < w.heap.size) (h : LectIn w (fun b => b < w.heap.size) x q) :
    Calls Tryz.prog 37 #[lectV x q, .pointer (some ⟨G, 0, none⟩), .pointer (some ⟨N, 0, none⟩)] w (Says (.int .i64 (lectM d s b m n x)) w) := by
  have hX := Box2.new w (.string (ba x.1)) (.slice q.1 x.2.length q.2)
  have hb1 := (Below.refl w.heap.size w).alloc (Nat.le_refl _) (.cells #[.string (ba x.1), .slice q.1 x.2.length q.2] 34)
  have hGl := hG.lt
  obtain ⟨w1, hw1⟩ : ∃ w1, w.alloc (.cells #[.string (ba x.1), .slice q.1 x.2.length q.2] 34) = w1 := ⟨_, rfl⟩
  rw [hw1] at hX hb1
  have cC := lcheck_any d s b m n x q w1 ((h.below hb1).mono (fun k hk => Nat.lt_of_lt_of_le hk hb1.size))
  obtain ⟨x0, x1, x2, x3, _⟩ := hG
  unfold Says lectV at *
  obtain ⟨R, hR⟩ : ∃ R, lectM d s b m n x = R := ⟨_, rfl⟩
  rw [hR] at cC ⊢
  obtain ⟨F, hF⟩ : ∃ F, x.2.length = F := ⟨_, rfl⟩
  obtain ⟨X, hXe⟩ : ∃ X, ba x.1 = X := ⟨_, rfl⟩
  rw [hF, hXe] at cC hw1 ⊢
  have CC := hid cC
  have HB := hid hb1
  have HW1 := hid hw1
  clear cC hX hb1 h hR hw1 hF hXe
  go_enter Tryz.func37, Tryz.ntmps37
  go_wp2_with fail
  (try rw [HW1.out])
  refine CC.out.mono ?_
  rintro e w' ⟨rfl, hb3⟩
  have HB3 := hid (HB.out.trans (hb3.mono HB.out.size))
  clear hb3
  go_wp2
  go_ret
  exact ⟨rfl, HB3.out⟩
end Go.Proofs.YtnpfmoalgphkcaaGreatDoor

