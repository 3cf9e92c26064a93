/-
  Lists of strings in memory. No program beyond the types' facts, no conditions.
  Times and rooms in memory: slices of structs that came in, or that the call made. No program beyond the types' facts.
  Numbers with a width, and a code's last number: plain mathematics. No program, no conditions.
  Natural order: the program's Compare. Conditions: the strings fit into memory.
-/
import Derived.Test.YtnpfmoalgphkcaaGreatDoorVA13
import Derived.Test.YtnpfmoalgphkcaaGreatDoorVA12
import Derived.Test.YtnpfmoalgphkcaaGreatDoorVA04
import Derived.Lib.ItoaNum
import Derived.Lib.Atoi
import Derived.Lib.SlTrimSet
set_option linter.unusedVariables false
namespace Go.Proofs.YtnpfmoalgphkcaaGreatDoor.S3
open Go Go.Proofs Go.RowKit Go.Lib

def strV (s : Str) : Value := .string ⟨s.toArray⟩
/-- The slice at A holds the strings l, in a block with P. -/
def StrsIn (w : World) (P : Nat → Prop) (A : Option Addr) (l : List Str) : Prop :=
  l = [] ∨ ∃ b off, A = some ⟨b, off, none⟩ ∧ P b ∧ ∀ (j : Nat) (s : Str), l[j]? = some s → w.cell? ⟨b, off + j, none⟩ = some (strV s)
theorem StrsIn.kept {w w' : World} {P : Nat → Prop} {A : Option Addr} {l : List Str} (h : StrsIn w P A l) (hk : ∀ b, P b → w'.heap[b]? = w.heap[b]?) : StrsIn w' P A l := by
  rcases h with h | ⟨b, off, hA, hP, hc⟩
  · exact .inl h
  · exact .inr ⟨b, off, hA, hP, fun j s hj => (World.cell?_of_block (w := w) (hk b hP)).trans (hc j s hj)⟩
theorem StrsIn.mono {w : World} {P P' : Nat → Prop} {A : Option Addr} {l : List Str} (h : StrsIn w P A l) (hP : ∀ b, P b → P' b) : StrsIn w P' A l := by
  rcases h with h | ⟨b, off, hA, hb, hc⟩
  · exact .inl h
  · exact .inr ⟨b, off, hA, hP b hb, hc⟩
theorem StrsIn.at_ {w : World} {P : Nat → Prop} {A : Option Addr} {l : List Str} (h : StrsIn w P A l) {k : Nat} (hk : k < l.length) :
    ∃ b off, A = some ⟨b, off, none⟩ ∧ P b ∧ w.cell? ⟨b, off + k, none⟩ = some (strV l[k]) := by
  rcases h with h | ⟨b, off, hA, hP, hc⟩
  · subst h; simp at hk
  · exact ⟨b, off, hA, hP, hc k _ (List.getElem?_eq_getElem hk)⟩

theorem infoStr : (Tryz.prog.info? 9).map (fun i => (i.zero, i.size, i.bytes)) = some (some (.string ⟨#[]⟩), 1, 16) := by kernel_rfl
def strVals (l : List Str) : List Value := l.map strV
theorem strVals_app (a b : List Str) : strVals (a ++ b) = strVals a ++ strVals b := by simp [strVals]
/-- A row of strings that the call owns. -/
def StrRow (w : World) (B : Nat) (v : Value) (l : List Str) : Prop := w.ownsRow B 9 1 v l.length (strVals l)
theorem StrRow.strsIn {w : World} {B : Nat} {v : Value} {l : List Str} (h : StrRow w B v l) : ∃ A c, v = .slice A l.length c ∧ l.length ≤ c ∧ c ≤ 9223372036854775807 ∧ StrsIn w (fun b => B ≤ b ∧ b < w.heap.size) A l := by
  have h' := h
  rcases h.2 with ⟨hv, h0⟩ | ⟨g, cap, cur, hv, hB, hg, h1, h2, _⟩
  · have hl : l = [] := List.eq_nil_of_length_eq_zero h0
    subst hl
    exact ⟨none, 0, hv, Nat.le_refl _, by omega, .inl rfl⟩
  · refine ⟨_, cap, hv, h1, by unfold maxLen at h2; omega, .inr ⟨g, 0, rfl, ⟨hB, (Array.getElem?_eq_some_iff.1 hg).1⟩, fun j s hj => ?_⟩⟩
    have := World.ownsRow.cells h' (g := g) (by rw [hv]; rfl) j (strV s) (by unfold strVals; rw [List.getElem?_map, hj]; rfl)
    rwa [Addr.add_lit] at this
theorem StrRow.mono {w : World} {B B' : Nat} {v : Value} {l : List Str} (h : StrRow w B v l) (hB : B' ≤ B) : StrRow w B' v l := by
  obtain ⟨h1, h2⟩ := h
  refine ⟨h1, ?_⟩
  rcases h2 with h2 | ⟨g, cap, cur, hv, hg, r⟩
  · exact .inl h2
  · exact .inr ⟨g, cap, cur, hv, by omega, r⟩
theorem StrRow.one {B : Nat} {w : World} {v : Value} {l : List Str} (hr : StrRow w B v l) : ∀ u ∈ [v], u.oneCell' = true := by
  intro u hu
  simp at hu
  subst hu
  rcases hr.2 with ⟨h, _⟩ | ⟨g, cap, cur, h, _⟩ <;> rw [h] <;> rfl
theorem one_str (s : ByteArray) : ∀ u ∈ [Value.string s], u.oneCell' = true := by
  intro u hu
  simp at hu
  subst hu
  rfl

theorem row_under {w w' : World} {B e z n : Nat} {v : Value} {xs : List Value} (h : w.ownsRow B e z v n xs) (hb : Below w.heap.size w w') : w'.ownsRow B e z v n xs := by
  obtain ⟨h1, h2⟩ := h
  refine ⟨h1, ?_⟩
  rcases h2 with h2 | ⟨k, cap, cur, hk, hg, hh, r⟩
  · exact .inl h2
  · exact .inr ⟨k, cap, cur, hk, hg, (hb.block k (Array.getElem?_eq_some_iff.1 hh).1).trans hh, r⟩
set_option maxHeartbeats 1000000 in
theorem row_slice {w : World} {B e z n : Nat} {v : Value} {xs : List Value} (h : w.ownsRow B e z v n xs) : ∃ A c, v = .slice A n c := by
  rcases h.2 with ⟨hv, h0⟩ | ⟨g, cap, cur, hv, _⟩
  · exact ⟨none, 0, by rw [hv, h0]⟩
  · exact ⟨_, cap, hv⟩

end Go.Proofs.YtnpfmoalgphkcaaGreatDoor.S3

set_option linter.unusedVariables false
namespace Go.Proofs.YtnpfmoalgphkcaaGreatDoor
open Go Go.Proofs Go.RowKit Go.Lib

/-- The slice at A holds the times l, in a block with P. -/
def TimesIn (w : World) (P : Nat → Prop) (A : Option Addr) (l : List TimeD) : Prop :=
  (∀ t ∈ l, t.2.2.1 ≤ 9223372036854775807) ∧ (l = [] ∨ ∃ b off, A = some ⟨b, off, none⟩ ∧ P b ∧ ∀ (j : Nat) (t : TimeD), l[j]? = some t → ∀ (i : Nat) (v : Value), (timeVs t)[i]? = some v → w.cell? ⟨b, off + j * 4 + i, none⟩ = some v)
theorem TimesIn.nil (w : World) (P : Nat → Prop) (A : Option Addr) : TimesIn w P A [] := ⟨fun t h => by simp at h, .inl rfl⟩
theorem TimesIn.kept {w w' : World} {P : Nat → Prop} {A : Option Addr} {l : List TimeD} (h : TimesIn w P A l) (hk : ∀ b, P b → w'.heap[b]? = w.heap[b]?) : TimesIn w' P A l := by
  rcases h with ⟨hle, h | ⟨b, off, hA, hP, hc⟩⟩
  · exact ⟨hle, .inl h⟩
  · exact ⟨hle, .inr ⟨b, off, hA, hP, fun j t hj i v hv => (World.cell?_of_block (w := w) (hk b hP)).trans (hc j t hj i v hv)⟩⟩
theorem TimesIn.mono {w : World} {P P' : Nat → Prop} {A : Option Addr} {l : List TimeD} (h : TimesIn w P A l) (hP : ∀ b, P b → P' b) : TimesIn w P' A l := by
  rcases h with ⟨hle, h | ⟨b, off, hA, hb, hc⟩⟩
  · exact ⟨hle, .inl h⟩
  · exact ⟨hle, .inr ⟨b, off, hA, hP b hb, hc⟩⟩
theorem TimesIn.below {w w' : World} {B : Nat} {A : Option Addr} {l : List TimeD} (h : TimesIn w (fun b => b < B) A l) (hb : Below B w w') : TimesIn w' (fun b => b < B) A l := h.kept fun b hB => hb.block b hB
theorem TimesIn.le {w : World} {P : Nat → Prop} {A : Option Addr} {l : List TimeD} (h : TimesIn w P A l) {k : Nat} (hk : k < l.length) : l[k].2.2.1 ≤ 9223372036854775807 := h.1 _ (List.getElem_mem hk)
theorem TimesIn.at_ {w : World} {P : Nat → Prop} {A : Option Addr} {l : List TimeD} (h : TimesIn w P A l) {k : Nat} (hk : k < l.length) :
    ∃ b off, A = some ⟨b, off, none⟩ ∧ P b ∧ w.cell? ⟨b, off + k * 4, none⟩ = some (.int .i64 l[k].1) ∧ w.cell? ⟨b, off + k * 4 + 1, none⟩ = some (.int .i64 l[k].2.1) ∧ w.cell? ⟨b, off + k * 4 + 2, none⟩ = some (.int .i64 l[k].2.2.1) ∧ w.cell? ⟨b, off + k * 4 + 3, none⟩ = some (.int .i64 l[k].2.2.2) := by
  rcases h with ⟨hle, h | ⟨b, off, hA, hP, hc⟩⟩
  · subst h; simp at hk
  · have hg := List.getElem?_eq_getElem hk
    exact ⟨b, off, hA, hP, hc k _ hg 0 _ rfl, hc k _ hg 1 _ rfl, hc k _ hg 2 _ rfl, hc k _ hg 3 _ rfl⟩
theorem S3.StrsIn.below {w w' : World} {B : Nat} {A : Option Addr} {l : List Str} (h : S3.StrsIn w (fun b => b < B) A l) (hb : Below B w w') : S3.StrsIn w' (fun b => b < B) A l := h.kept fun b hB => hb.block b hB

/-- The five parts of a room, as they lie in memory. -/
structure Room5 where
  a1 : Option Addr
  c1 : Nat
  a2 : Option Addr
  c2 : Nat
def roomV (r : RoomD) (q : Room5) : Value := .agg #[.string (ba r.1), .string (ba r.2.1), .int .i64 r.2.2.1, .slice q.a1 r.2.2.2.1.length q.c1, .slice q.a2 r.2.2.2.2.length q.c2]
/-- What a room's slices lead to. -/
structure RoomIn (w : World) (P : Nat → Prop) (r : RoomD) (q : Room5) : Prop where
  f : S3.StrsIn w P q.a1 r.2.2.2.1
  t : TimesIn w P q.a2 r.2.2.2.2
  f1 : r.2.2.2.1.length ≤ q.c1
  f2 : q.c1 ≤ 9223372036854775807
  t1 : r.2.2.2.2.length ≤ q.c2
  t2 : q.c2 ≤ 9223372036854775807
theorem RoomIn.kept {w w' : World} {P : Nat → Prop} {r : RoomD} {q : Room5} (h : RoomIn w P r q) (hk : ∀ b, P b → w'.heap[b]? = w.heap[b]?) : RoomIn w' P r q :=
  ⟨h.f.kept hk, h.t.kept hk, h.f1, h.f2, h.t1, h.t2⟩
theorem RoomIn.mono {w : World} {P P' : Nat → Prop} {r : RoomD} {q : Room5} (h : RoomIn w P r q) (hP : ∀ b, P b → P' b) : RoomIn w P' r q := ⟨h.f.mono hP, h.t.mono hP, h.f1, h.f2, h.t1, h.t2⟩
theorem RoomIn.below {w w' : World} {B : Nat} {r : RoomD} {q : Room5} (h : RoomIn w (fun b => b < B) r q) (hb : Below B w w') : RoomIn w' (fun b => b < B) r q := h.kept fun b hB => hb.block b hB
end Go.Proofs.YtnpfmoalgphkcaaGreatDoor

set_option linter.unusedVariables false
namespace Go.Proofs.YtnpfmoalgphkcaaGreatDoor.S3
open Go Go.Lib

def numN (l : Str) : Nat := l.foldl (fun n c => 10 * n + (c.toNat - 48)) 0
theorem dec_small {u : Nat} (h : u < 10) : decDigits u = [UInt8.ofNat (48 + u)] := Lib.decDigits_one h
theorem dec_step (m d : Nat) (hm : 1 ≤ m) (hd : d < 10) : decDigits (10 * m + d) = decDigits m ++ [UInt8.ofNat (48 + d)] := by
  conv => lhs; rw [decDigits]
  rw [dif_neg (by omega), show (10 * m + d) / 10 = m by omega, show (10 * m + d) % 10 = d by omega]
theorem dec_len (u k : Nat) (h : u < 10 ^ k) (hk : 1 ≤ k) : (decDigits u).length ≤ k := by
  induction k generalizing u with
  | zero => omega
  | succ k ih =>
    by_cases hu : u < 10
    · rw [dec_small hu]
      simp
    · obtain ⟨m, d, hm, hd, rfl⟩ : ∃ m d, 1 ≤ m ∧ d < 10 ∧ u = 10 * m + d := ⟨u / 10, u % 10, by omega, by omega, by omega⟩
      rw [dec_step m d hm hd, List.length_append]
      rw [Nat.pow_succ] at h
      have hk' : 1 ≤ k := by
        rcases Nat.eq_zero_or_pos k with h0 | h0
        · subst h0; simp at h; omega
        · exact h0
      have := ih m (by omega) hk'
      simp
      omega
def zerosS (k : Nat) : Str := List.replicate k 48
/-- A number in decimal with a width. -/
def wrS (n w : Nat) : Str := zerosS (w - (decDigits n).length) ++ decDigits n
/-! ### the last number of a code -/
def preS (s : Str) : Str := (s.reverse.dropWhile dg).reverse
def lastS (s : Str) : Str := s.drop (preS s).length
end Go.Proofs.YtnpfmoalgphkcaaGreatDoor.S3

set_option linter.unusedVariables false
namespace Go.Proofs.YtnpfmoalgphkcaaGreatDoor.S3
open Go Go.Proofs Go.RowKit Go.Lib

theorem str_no {s : ByteArray} (h : 0 < s.size) : (s.toList == []) = false ∧ (!s.toList.isEmpty) = true ∧ (s.toList != []) = true ∧ ¬ s.toList = [] := by
  have hne : s.toList ≠ [] := fun e => by
    rw [Lib.toList_data] at e
    rw [Lib.size_eq, e] at h
    simp at h
  refine ⟨by simpa using hne, by simpa using hne, by simpa using hne, hne⟩
theorem str_yes {s : ByteArray} (h : ¬ 0 < s.size) : (s.toList == []) = true ∧ (!s.toList.isEmpty) = false ∧ (s.toList != []) = false ∧ s.toList = [] := by
  have e : s.toList = [] := by
    rw [Lib.toList_data]
    exact List.eq_nil_of_length_eq_zero (by rw [← Lib.size_eq]; omega)
  refine ⟨by simpa using e, by simp [e], by simp [e], e⟩
theorem lst_ne {s : ByteArray} (h : 0 < s.size) : lst s ≠ [] := fun e => by
  have h' : 0 < (lst s).length := by rw [← Lib.size_eq]; exact h
  rw [e] at h'
  simp at h'
theorem lst_nil {s : ByteArray} (h : ¬ 0 < s.size) : lst s = [] := List.eq_nil_of_length_eq_zero (by rw [← Lib.size_eq]; omega)
end Go.Proofs.YtnpfmoalgphkcaaGreatDoor.S3

