/-
  Strings as lists of bytes, cut at a byte; lists of strings in memory. No program beyond the types' facts, no conditions.
-/
import Derived.Test.YtmmphjpakoimcaaDoorInts
import Derived.Lib.IndexLaws
import Derived.Lib.ItoaNum
import Derived.Lib.Atoi
set_option linter.unusedVariables false
namespace Go.Proofs.YtmmphjpakoimcaaDoor
open Go Go.Proofs Go.RowKit Go.Lib

abbrev Str := List UInt8
abbrev lst (s : ByteArray) : Str := s.data.toList
def ba (s : Str) : ByteArray := ⟨s.toArray⟩
theorem ba_lst (s : ByteArray) : ba (lst s) = s := by cases s; rfl
theorem lst_ba (l : Str) : lst (ba l) = l := rfl
theorem lst_extract (s : ByteArray) (a b : Nat) : lst (s.extract a b) = ((lst s).take b).drop a := by
  simp [lst, ByteArray.data_extract, List.extract_eq_take_drop, List.drop_take]
theorem str_no {s : ByteArray} (h : 0 < s.size) : (s.toList == []) = false ∧ (!s.toList.isEmpty) = true ∧ (s.toList != []) = true ∧ ¬ s.toList = [] := by
  have hne : s.toList ≠ [] := fun e => by
    rw [Lib.toList_data] at e
    rw [Lib.size_eq, e] at h
    simp at h
  refine ⟨by simpa using hne, by simpa using hne, by simpa using hne, hne⟩
theorem str_yes {s : ByteArray} (h : ¬ 0 < s.size) : (s.toList == []) = true ∧ (!s.toList.isEmpty) = false ∧ (s.toList != []) = false ∧ s.toList = [] := by
  have e : s.toList = [] := by
    rw [Lib.toList_data]
    exact List.eq_nil_of_length_eq_zero (by rw [← Lib.size_eq]; omega)
  refine ⟨by simpa using e, by simp [e], by simp [e], e⟩
theorem lst_ne {s : ByteArray} (h : 0 < s.size) : lst s ≠ [] := fun e => by
  have h' : 0 < (lst s).length := by rw [← Lib.size_eq]; exact h
  rw [e] at h'
  simp at h'
theorem lst_nil {s : ByteArray} (h : ¬ 0 < s.size) : lst s = [] := List.eq_nil_of_length_eq_zero (by rw [← Lib.size_eq]; omega)

/-! ### cutting at a byte -/
def bef (c : UInt8) : Str → Str
  | [] => []
  | x :: r => if x = c then [] else x :: bef c r
def aft (c : UInt8) : Str → Str
  | [] => []
  | x :: r => if x = c then r else aft c r
def has (c : UInt8) : Str → Bool
  | [] => false
  | x :: r => x == c || has c r
theorem bef_le (c : UInt8) : ∀ s, (bef c s).length ≤ s.length
  | [] => Nat.le_refl _
  | x :: r => by
    unfold bef
    have := bef_le c r
    split <;> simp <;> omega
theorem bef_miss (c : UInt8) : ∀ s, has c s = false → bef c s = s ∧ aft c s = []
  | [], _ => ⟨rfl, rfl⟩
  | x :: r, h => by
    simp [has] at h
    have := bef_miss c r h.2
    simp [bef, aft, h.1, this.1, this.2]
theorem bef_hit (c : UInt8) : ∀ s, has c s = true → s = bef c s ++ c :: aft c s
  | [], h => by simp [has] at h
  | x :: r, h => by
    by_cases e : x = c
    · simp [bef, aft, e]
    · have h' : has c r = true := by simpa [has, e] using h
      simp only [bef, aft, if_neg e, List.cons_append]
      rw [← bef_hit c r h']
theorem bef_at (c : UInt8) (s : Str) (h : has c s = true) : s[(bef c s).length]? = some c := by
  have h0 := bef_hit c s h
  generalize bef c s = p at h0 ⊢
  rw [h0, List.getElem?_append_right (Nat.le_refl _)]
  simp
theorem bef_take (c : UInt8) (s : Str) : s.take (bef c s).length = bef c s := by
  cases hc : has c s with
  | true =>
    have h0 := bef_hit c s hc
    generalize bef c s = p at h0 ⊢
    rw [h0]
    simp
  | false => rw [(bef_miss c s hc).1, List.take_of_length_le (Nat.le_refl _)]
theorem aft_drop (c : UInt8) (s : Str) (h : has c s = true) : s.drop ((bef c s).length + 1) = aft c s := by
  have h0 := bef_hit c s h
  generalize bef c s = p at h0 ⊢
  generalize aft c s = q at h0 ⊢
  rw [h0]
  simp
theorem bef_not (c : UInt8) : ∀ s x, x ∈ bef c s → x ≠ c
  | [], x, h => by simp [bef] at h
  | y :: r, x, h => by
    unfold bef at h
    split at h
    · simp at h
    · rename_i hy
      rcases List.mem_cons.1 h with h | h
      · subst h; exact hy
      · exact bef_not c r x h
theorem indexByte_bef (c : UInt8) : ∀ s, Lib.indexByte s c = if has c s = true then ((bef c s).length : Int) else -1
  | [] => rfl
  | x :: r => by
    have ih := indexByte_bef c r
    unfold Lib.indexByte
    by_cases e : x = c
    · simp [e, has, bef]
    · have e' : (x == c) = false := by simpa using e
      simp only [e', has, bef, if_neg e, Bool.false_or, Bool.false_eq_true, if_false]
      rw [ih]
      by_cases hh : has c r = true
      · rw [if_pos hh, if_pos hh]
        rw [if_neg (by simp)]
        simp
      · rw [if_neg hh, if_neg hh]
        rfl

theorem has_app (c : UInt8) : ∀ s t, has c (s ++ t) = (has c s || has c t)
  | [], t => by simp [has]
  | x :: s, t => by simp [has, has_app c s t, Bool.or_assoc]
theorem bef_app (c : UInt8) : ∀ s t, has c s = false → bef c (s ++ t) = s ++ bef c t
  | [], t, _ => rfl
  | x :: s, t, h => by
    simp [has] at h
    simp only [List.cons_append, bef, if_neg h.1]
    rw [bef_app c s t h.2]

def strV (s : Str) : Value := .string ⟨s.toArray⟩
/-- The slice at A holds the strings l, in a block with P. -/
def StrsIn (w : World) (P : Nat → Prop) (A : Option Addr) (l : List Str) : Prop :=
  l = [] ∨ ∃ b off, A = some ⟨b, off, none⟩ ∧ P b ∧ ∀ (j : Nat) (s : Str), l[j]? = some s → w.cell? ⟨b, off + j, none⟩ = some (strV s)
theorem StrsIn.kept {w w' : World} {P : Nat → Prop} {A : Option Addr} {l : List Str} (h : StrsIn w P A l) (hk : ∀ b, P b → w'.heap[b]? = w.heap[b]?) : StrsIn w' P A l := by
  rcases h with h | ⟨b, off, hA, hP, hc⟩
  · exact .inl h
  · exact .inr ⟨b, off, hA, hP, fun j s hj => (World.cell?_of_block (w := w) (hk b hP)).trans (hc j s hj)⟩
theorem StrsIn.mono {w : World} {P P' : Nat → Prop} {A : Option Addr} {l : List Str} (h : StrsIn w P A l) (hP : ∀ b, P b → P' b) : StrsIn w P' A l := by
  rcases h with h | ⟨b, off, hA, hb, hc⟩
  · exact .inl h
  · exact .inr ⟨b, off, hA, hP b hb, hc⟩
theorem StrsIn.at_ {w : World} {P : Nat → Prop} {A : Option Addr} {l : List Str} (h : StrsIn w P A l) {k : Nat} (hk : k < l.length) :
    ∃ b off, A = some ⟨b, off, none⟩ ∧ P b ∧ w.cell? ⟨b, off + k, none⟩ = some (strV l[k]) := by
  rcases h with h | ⟨b, off, hA, hP, hc⟩
  · subst h; simp at hk
  · exact ⟨b, off, hA, hP, hc k _ (List.getElem?_eq_getElem hk)⟩

theorem infoStr : (Tryd.prog.info? 9).map (fun i => (i.zero, i.size, i.bytes)) = some (some (.string ⟨#[]⟩), 1, 16) := by kernel_rfl
def strVals (l : List Str) : List Value := l.map strV
theorem strVals_len (l : List Str) : (strVals l).length = l.length := by simp [strVals]
theorem strVals_app (a b : List Str) : strVals (a ++ b) = strVals a ++ strVals b := by simp [strVals]
/-- A row of strings that the call owns. -/
def StrRow (w : World) (B : Nat) (v : Value) (l : List Str) : Prop := w.ownsRow B 9 1 v l.length (strVals l)
theorem StrRow.strsIn {w : World} {B : Nat} {v : Value} {l : List Str} (h : StrRow w B v l) : ∃ A c, v = .slice A l.length c ∧ l.length ≤ c ∧ c ≤ 9223372036854775807 ∧ StrsIn w (fun b => B ≤ b ∧ b < w.heap.size) A l := by
  have h' := h
  rcases h.2 with ⟨hv, h0⟩ | ⟨g, cap, cur, hv, hB, hg, h1, h2, _⟩
  · have hl : l = [] := List.eq_nil_of_length_eq_zero h0
    subst hl
    exact ⟨none, 0, hv, Nat.le_refl _, by omega, .inl rfl⟩
  · refine ⟨_, cap, hv, h1, by unfold maxLen at h2; omega, .inr ⟨g, 0, rfl, ⟨hB, (Array.getElem?_eq_some_iff.1 hg).1⟩, fun j s hj => ?_⟩⟩
    have := World.ownsRow.cells h' (g := g) (by rw [hv]; rfl) j (strV s) (by unfold strVals; rw [List.getElem?_map, hj]; rfl)
    rwa [Addr.add_lit] at this
theorem StrRow.mono {w : World} {B B' : Nat} {v : Value} {l : List Str} (h : StrRow w B v l) (hB : B' ≤ B) : StrRow w B' v l := by
  obtain ⟨h1, h2⟩ := h
  refine ⟨h1, ?_⟩
  rcases h2 with h2 | ⟨g, cap, cur, hv, hg, r⟩
  · exact .inl h2
  · exact .inr ⟨g, cap, cur, hv, by omega, r⟩
theorem StrRow.played {B F g : Nat} {a w : World} {v : Value} {l : List Str} (hr : StrRow a B v l) (h : Played F g a w) (hg : g < B) (hF : a.heap.size ≤ F) : StrRow w B v l :=
  h.row hr (fun k hk => by have := hr.lt k hk; omega)
theorem StrRow.rolled {B g : Nat} {a w : World} {v : Value} {l : List Str} (hr : StrRow a B v l) (h : Rolled g a w) (hg : g < B) : StrRow w B v l :=
  h.row hr (fun e => by have := hr.lt g e; omega)
theorem StrRow.one {B : Nat} {w : World} {v : Value} {l : List Str} (hr : StrRow w B v l) : ∀ u ∈ [v], u.oneCell' = true := by
  intro u hu
  simp at hu
  subst hu
  rcases hr.2 with ⟨h, _⟩ | ⟨g, cap, cur, h, _⟩ <;> rw [h] <;> rfl
theorem one_str (s : ByteArray) : ∀ u ∈ [Value.string s], u.oneCell' = true := by
  intro u hu
  simp at hu
  subst hu
  rfl


end Go.Proofs.YtmmphjpakoimcaaDoor
