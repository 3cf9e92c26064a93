/-
  Tables in memory; the place of a string in a list: slices.Index, slices.Contains, place of the specification. Conditions: the strings lie in memory.
-/
import Derived.Test.YtocmbifljkcmeaaDoorR8K
import Derived.Test.YtocmbifljkcmeaaDoorBH
set_option linter.unusedVariables false
namespace Go.Proofs.YtocmbifljkcmeaaDoor
open Go Go.Proofs Go.RowKit Go.Lib

def NumsIn (w : World) (P : Nat → Prop) (A : Option Addr) (l : List Int) : Prop :=
  l = [] ∨ ∃ b off, A = some ⟨b, off, none⟩ ∧ P b ∧ ∀ (j : Nat) (v : Int), l[j]? = some v → w.cell? ⟨b, off + j, none⟩ = some (.int .i64 v)
theorem NumsIn.kept {w w' : World} {P : Nat → Prop} {A : Option Addr} {l : List Int} (h : NumsIn w P A l) (hk : ∀ b, P b → w'.heap[b]? = w.heap[b]?) : NumsIn w' P A l := by
  rcases h with h | ⟨b, off, hA, hP, hc⟩
  · exact .inl h
  · exact .inr ⟨b, off, hA, hP, fun j v hj => (World.cell?_of_block (hk b hP)).trans (hc j v hj)⟩
theorem NumsIn.mono {w : World} {P P' : Nat → Prop} {A : Option Addr} {l : List Int} (h : NumsIn w P A l) (hP : ∀ b, P b → P' b) : NumsIn w P' A l := by
  rcases h with h | ⟨b, off, hA, hb, hc⟩
  · exact .inl h
  · exact .inr ⟨b, off, hA, hP b hb, hc⟩
theorem NumsIn.at_ {w : World} {P : Nat → Prop} {A : Option Addr} {l : List Int} (h : NumsIn w P A l) {k : Nat} (hk : k < l.length) : ∃ b off, A = some ⟨b, off, none⟩ ∧ P b ∧ w.cell? ⟨b, off + k, none⟩ = some (.int .i64 (l.getD k 0)) := by
  rcases h with h | ⟨b, off, hA, hP, hc⟩
  · subst h; simp at hk
  · exact ⟨b, off, hA, hP, by rw [getD_elem hk]; exact hc k _ (List.getElem?_eq_getElem hk)⟩
theorem NumsIn.ints {w : World} {B : Nat} {A : Option Addr} {l : List Int} (h : NumsIn w (fun b => b < B) A l) : IntsIn w B A l := h
/-- A table's rows. -/
def TabIn (w : World) (P : Nat → Prop) (A : Option Addr) (R : List (List Int)) : Prop :=
  R = [] ∨ ∃ b off, A = some ⟨b, off, none⟩ ∧ P b ∧ ∀ (j : Nat) (r : List Int), R[j]? = some r → ∃ A' c', w.cell? ⟨b, off + j, none⟩ = some (.slice A' r.length c') ∧ r.length ≤ c' ∧ c' ≤ 9223372036854775807 ∧ NumsIn w P A' r
theorem TabIn.kept {w w' : World} {P : Nat → Prop} {A : Option Addr} {R : List (List Int)} (h : TabIn w P A R) (hk : ∀ b, P b → w'.heap[b]? = w.heap[b]?) : TabIn w' P A R := by
  rcases h with h | ⟨b, off, hA, hP, hc⟩
  · exact .inl h
  · refine .inr ⟨b, off, hA, hP, fun j r hj => ?_⟩
    obtain ⟨A', c', h1, h2, h3, h4⟩ := hc j r hj
    exact ⟨A', c', (World.cell?_of_block (hk b hP)).trans h1, h2, h3, h4.kept hk⟩
theorem TabIn.mono {w : World} {P P' : Nat → Prop} {A : Option Addr} {R : List (List Int)} (h : TabIn w P A R) (hP : ∀ b, P b → P' b) : TabIn w P' A R := by
  rcases h with h | ⟨b, off, hA, hb, hc⟩
  · exact .inl h
  · refine .inr ⟨b, off, hA, hP b hb, fun j r hj => ?_⟩
    obtain ⟨A', c', h1, h2, h3, h4⟩ := hc j r hj
    exact ⟨A', c', h1, h2, h3, h4.mono hP⟩
theorem TabIn.at_ {w : World} {P : Nat → Prop} {A : Option Addr} {R : List (List Int)} (h : TabIn w P A R) {k : Nat} (hk : k < R.length) :
    ∃ b off A' c', A = some ⟨b, off, none⟩ ∧ P b ∧ w.cell? ⟨b, off + k, none⟩ = some (.slice A' (R.getD k []).length c') ∧ (R.getD k []).length ≤ c' ∧ c' ≤ 9223372036854775807 ∧ NumsIn w P A' (R.getD k []) := by
  rcases h with h | ⟨b, off, hA, hP, hc⟩
  · subst h; simp at hk
  · obtain ⟨A', c', h1, h2, h3, h4⟩ := hc k _ (List.getElem?_eq_getElem hk)
    have e : R.getD k [] = R[k] := by simp [List.getD, List.getElem?_eq_getElem hk]
    rw [e]
    exact ⟨b, off, A', c', hA, hP, h1, h2, h3, h4⟩
/-- A square table's cells. -/
theorem TabIn.sq {w : World} {P : Nat → Prop} {S : Option Addr} {R : List (List Int)} {n : Nat} (h : TabIn w P S R) (hs : sqrB R n = true) (hn : 0 < n) :
    ∃ b off, S = some ⟨b, off, none⟩ ∧ P b ∧ ∀ i, i < n → ∃ bi oi ci, w.cell? ⟨b, off + i, none⟩ = some (.slice (some ⟨bi, oi, none⟩) n ci) ∧ P bi ∧ n ≤ ci ∧ ci ≤ 9223372036854775807 ∧ ∀ k, k < n → w.cell? ⟨bi, oi + k, none⟩ = some (.int .i64 (at2 R i k)) := by
  have hl := sqrB_len hs
  rcases h with h | ⟨b, off, hA, hP, hc⟩
  · subst h; simp at hl; omega
  · refine ⟨b, off, hA, hP, fun i hi => ?_⟩
    have hi' : i < R.length := by omega
    obtain ⟨A', c', h1, h2, h3, h4⟩ := hc i _ (List.getElem?_eq_getElem hi')
    have hr := sqrB_row hs hi'
    rw [hr] at h1 h2
    rcases h4 with h4 | ⟨bi, oi, hA', hP', hc'⟩
    · rw [h4] at hr; simp at hr; omega
    · subst hA'
      refine ⟨bi, oi, c', h1, hP', h2, h3, fun k hk => ?_⟩
      have e : R.getD i [] = R[i] := by simp [List.getD, List.getElem?_eq_getElem hi']
      have hk' : k < R[i].length := by omega
      unfold at2
      rw [e, getD_elem hk']
      exact hc' k _ (List.getElem?_eq_getElem hk')
/-- A table: its buildings, its rows. -/
structure TravIn (w : World) (P : Nat → Prop) (A S : Option Addr) (t : TabD) : Prop where
  b : S3.StrsIn w P A t.1
  s : TabIn w P S t.2
theorem TravIn.kept {w w' : World} {P : Nat → Prop} {A S : Option Addr} {t : TabD} (h : TravIn w P A S t) (hk : ∀ b, P b → w'.heap[b]? = w.heap[b]?) : TravIn w' P A S t := ⟨h.b.kept hk, h.s.kept hk⟩
theorem TravIn.mono {w : World} {P P' : Nat → Prop} {A S : Option Addr} {t : TabD} (h : TravIn w P A S t) (hP : ∀ b, P b → P' b) : TravIn w P' A S t := ⟨h.b.mono hP, h.s.mono hP⟩
theorem TravIn.below {w w' : World} {B : Nat} {A S : Option Addr} {t : TabD} (h : TravIn w (fun b => b < B) A S t) (hb : Below B w w') : TravIn w' (fun b => b < B) A S t := h.kept fun b hb' => hb.block b hb'

set_option maxHeartbeats 2000000 in
set_option maxRecDepth 100000 in
theorem index_any (A : Option Addr) (l : List Str) (c : Nat) (x : ByteArray) (P : Nat → Prop) (w : World) (h : S3.StrsIn w P A l) (h63 : l.length ≤ 9223372036854775807) :
    Calls Tryd.prog 35 #[.slice A l.length c, .string x] w fun e w' => e = .returned (.int .i64 (plc l (lst x))) ∧ w = w' := by
  obtain ⟨ANS, hA⟩ : ∃ ANS, plc l (lst x) = ANS := ⟨_, rfl⟩
  rw [hA]
  have HA : Hid (plcN (l.drop 0) (lst x) 0 = ANS) := hid hA
  have HH := hid h
  clear h hA
  go_enter Tryd.func35, Tryd.ntmps35
  go_wp2
  go_loop [5, 8] (fun _ iv => ∃ i : Nat, iv = .int .i64 (i : Int) ∧ i ≤ l.length ∧ Hid (plcN (l.drop i) (lst x) i = ANS)) (fun _ iv => l.length - (RowKit.intOf iv).toNat)
  case atStart => exact ⟨0, rfl, Nat.zero_le _, HA⟩
  case round =>
    obtain ⟨i, rfl, hi, hE⟩ := hrel
    by_cases hlt : i < l.length
    · have hltz : (i : Int) < (l.length : Int) := by omega
      obtain ⟨b1, o1, rfl, _, hc1⟩ := HH.out.at_ hlt
      have hst := plcN_step l (lst x) i hlt
      rw [hE.out] at hst
      obtain ⟨y, hy⟩ : ∃ y, l[i] = y := ⟨_, rfl⟩
      rw [hy] at hc1 hst
      obtain ⟨Y, hY⟩ : ∃ Y : ByteArray, (⟨y.toArray⟩ : ByteArray) = Y := ⟨_, rfl⟩
      have hYl : Y.toList = y := by rw [Lib.toList_data, ← hY]
      have hXl : x.toList = lst x := Lib.toList_data x
      have e1 : S3.strV y = .string Y := by rw [← hY]; rfl
      rw [e1] at hc1
      by_cases hxy : y = lst x
      · have hbe : (x.toList == Y.toList) = true := by rw [hXl, hYl, hxy]; simp
        rw [if_pos hxy] at hst
        have HST := hid hst
        clear hy hY hYl hXl e1 hst hE hxy
        go_wp2
        go_ret
        exact ⟨by rw [HST.out]; rfl, rfl⟩
      · have hbe : (x.toList == Y.toList) = false := by rw [hXl, hYl]; simpa using fun e => hxy e.symm
        rw [if_neg hxy] at hst
        have HST := hid hst.symm
        clear hy hY hYl hXl e1 hst hE hxy
        go_wp2
        go_round
        case rel => exact ⟨i + 1, by go_num, by omega, HST⟩
        case measure => simp [RowKit.intOf]; omega
    · have hltz : ¬ (i : Int) < (l.length : Int) := by omega
      have hst := plcN_end l (lst x) i (by omega)
      rw [hE.out] at hst
      have HST := hid hst
      clear hst hE
      go_wp2
      go_ret
      exact ⟨by rw [HST.out]; rfl, rfl⟩
set_option maxHeartbeats 2000000 in
theorem contains_any (A : Option Addr) (l : List Str) (c : Nat) (x : ByteArray) (P : Nat → Prop) (w : World) (h : S3.StrsIn w P A l) (h63 : l.length ≤ 9223372036854775807) :
    Calls Tryd.prog 28 #[.slice A l.length c, .string x] w fun e w' => e = .returned (.bool (decide (lst x ∈ l))) ∧ w = w' := by
  have cI := index_any A l c x P w h h63
  have hm := plc_mem l (lst x)
  obtain ⟨p, hp⟩ : ∃ p, plc l (lst x) = p := ⟨_, rfl⟩
  rw [hp] at cI hm
  rw [← hm]
  obtain ⟨n, hn⟩ : ∃ n, l.length = n := ⟨_, rfl⟩
  rw [hn] at cI ⊢
  clear hm hp hn h h63
  go_enter Tryd.func28, Tryd.ntmps28
  go_wp2_with fail
  refine cI.mono ?_
  rintro e w' ⟨rfl, rfl⟩
  go_wp2
  go_ret
  exact ⟨rfl, rfl⟩
set_option maxHeartbeats 2000000 in
set_option maxRecDepth 100000 in
theorem place_any (A : Option Addr) (l : List Str) (c : Nat) (x : ByteArray) (P : Nat → Prop) (w : World) (h : S3.StrsIn w P A l) (h63 : l.length ≤ 9223372036854775807) :
    Calls Tryd.prog 32 #[.slice A l.length c, .string x] w fun e w' => e = .returned (.int .i64 (plc l (lst x))) ∧ w = w' := by
  obtain ⟨ANS, hA⟩ : ∃ ANS, plc l (lst x) = ANS := ⟨_, rfl⟩
  rw [hA]
  have HA : Hid (plcN (l.drop 0) (lst x) 0 = ANS) := hid hA
  have HH := hid h
  clear h hA
  go_enter Tryd.func32, Tryd.ntmps32
  go_wp2
  go_loop [5] (fun iv => ∃ i : Nat, iv = .int .i64 (i : Int) ∧ i ≤ l.length ∧ Hid (plcN (l.drop i) (lst x) i = ANS)) (fun iv => l.length - (RowKit.intOf iv).toNat)
  case atStart => exact ⟨0, rfl, Nat.zero_le _, HA⟩
  case round =>
    obtain ⟨i, rfl, hi, hE⟩ := hrel
    by_cases hlt : i < l.length
    · have hltz : (i : Int) < (l.length : Int) := by omega
      obtain ⟨b1, o1, rfl, _, hc1⟩ := HH.out.at_ hlt
      have hst := plcN_step l (lst x) i hlt
      rw [hE.out] at hst
      obtain ⟨y, hy⟩ : ∃ y, l[i] = y := ⟨_, rfl⟩
      rw [hy] at hc1 hst
      obtain ⟨Y, hY⟩ : ∃ Y : ByteArray, (⟨y.toArray⟩ : ByteArray) = Y := ⟨_, rfl⟩
      have hYl : Y.toList = y := by rw [Lib.toList_data, ← hY]
      have hXl : x.toList = lst x := Lib.toList_data x
      have e1 : S3.strV y = .string Y := by rw [← hY]; rfl
      rw [e1] at hc1
      by_cases hxy : y = lst x
      · have hbe : (Y.toList == x.toList) = true := by rw [hXl, hYl, hxy]; simp
        rw [if_pos hxy] at hst
        have HST := hid hst
        clear hy hY hYl hXl e1 hst hE hxy
        go_wp2
        go_ret
        exact ⟨by rw [HST.out]; rfl, rfl⟩
      · have hbe : (Y.toList == x.toList) = false := by rw [hXl, hYl]; simpa using hxy
        rw [if_neg hxy] at hst
        have HST := hid hst.symm
        clear hy hY hYl hXl e1 hst hE hxy
        go_wp2
        go_round
        case rel => exact ⟨i + 1, by go_num, by omega, HST⟩
        case measure => simp [RowKit.intOf]; omega
    · have hltz : ¬ (i : Int) < (l.length : Int) := by omega
      have hst := plcN_end l (lst x) i (by omega)
      rw [hE.out] at hst
      have HST := hid hst
      clear hst hE
      go_wp2
      go_ret
      exact ⟨by rw [HST.out]; rfl, rfl⟩
end Go.Proofs.YtocmbifljkcmeaaDoor
