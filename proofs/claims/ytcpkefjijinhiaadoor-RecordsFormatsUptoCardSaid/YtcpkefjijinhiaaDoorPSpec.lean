/-
  What Parse returns, as a function of the text and the place: lines, fields, records. No program, no conditions.
-/
import Derived.Test.YtcpkefjijinhiaaDoorReaderNext
import Derived.Test.YtcpkefjijinhiaaDoorRecs
set_option linter.unusedVariables false
namespace Go.Proofs.YtcpkefjijinhiaaDoor
open Go Go.Proofs Go.RowKit Go.Lib

/-! ### places -/
def lineOf (L : Str) (a : Nat) : Nat := 1 + (L.take a).count 10
def begOf (L : Str) : Nat → Nat
  | 0 => 0
  | a + 1 => if L[a]? = some 10 then a + 1 else begOf L a
theorem lineOf_le (L : Str) (a : Nat) : lineOf L a ≤ a + 1 := by
  unfold lineOf
  have h1 := List.count_le_length (a := (10 : UInt8)) (l := L.take a)
  have h2 := List.length_take_le a L
  omega
theorem begOf_le (L : Str) : ∀ a, begOf L a ≤ a
  | 0 => Nat.le_refl _
  | a + 1 => by
    unfold begOf
    have := begOf_le L a
    split <;> omega
theorem lineOf_add (L : Str) (a n : Nat) : lineOf L (a + n) = lineOf L a + ((L.drop a).take n).count 10 := by
  unfold lineOf
  rw [List.take_add, List.count_append]
  omega
theorem lineOf_zero (L : Str) : lineOf L 0 = 1 := by simp [lineOf]
theorem toNat10 (c : UInt8) : c.toNat = 10 ↔ c = 10 := by
  constructor
  · intro h; exact UInt8.toNat_inj.1 (by simpa using h)
  · rintro rfl; rfl
theorem lineOf_step (L : Str) (a : Nat) (h : a < L.length) : lineOf L (a + 1) = lineOf L a + (if L[a] = 10 then 1 else 0) := by
  rw [lineOf_add, List.drop_eq_getElem_cons h, List.take_succ_cons, List.take_zero, List.count_cons, List.count_nil]
  simp
theorem begOf_step (L : Str) (a : Nat) (h : a < L.length) : begOf L (a + 1) = if L[a] = 10 then a + 1 else begOf L a := by
  show (if L[a]? = some 10 then a + 1 else begOf L a) = _
  rw [List.getElem?_eq_getElem h]
  simp
theorem begOf_none (L : Str) (a : Nat) : ∀ b, a ≤ b → (∀ j, a ≤ j → j < b → L[j]? ≠ some 10) → begOf L b = begOf L a
  | 0, h, _ => by rw [show a = 0 by omega]
  | b + 1, h, hn => by
    by_cases e : a = b + 1
    · rw [e]
    · show (if L[b]? = some 10 then b + 1 else begOf L b) = _
      rw [if_neg (hn b (by omega) (by omega))]
      exact begOf_none L a b (by omega) fun j h1 h2 => hn j h1 (by omega)
theorem begOf_some (L : Str) (i b : Nat) (hib : i < b) (hi : L[i]? = some 10) (hn : ∀ j, i < j → j < b → L[j]? ≠ some 10) : begOf L b = i + 1 := by
  rw [begOf_none L (i + 1) b (by omega) fun j h1 h2 => hn j (by omega) h2]
  show (if L[i]? = some 10 then i + 1 else begOf L i) = _
  rw [if_pos hi]
def colP (L : Str) (a : Nat) : Int := (a : Int) - (begOf L a : Int) + 1

/-! ### cutting at a byte -/
def bef (c : UInt8) : Str → Str
  | [] => []
  | x :: r => if x = c then [] else x :: bef c r
def aft (c : UInt8) : Str → Str
  | [] => []
  | x :: r => if x = c then r else aft c r
def has (c : UInt8) : Str → Bool
  | [] => false
  | x :: r => x == c || has c r
theorem bef_le (c : UInt8) : ∀ s, (bef c s).length ≤ s.length
  | [] => Nat.le_refl _
  | x :: r => by
    unfold bef
    have := bef_le c r
    split <;> simp <;> omega
theorem bef_miss (c : UInt8) : ∀ s, has c s = false → bef c s = s ∧ aft c s = []
  | [], _ => ⟨rfl, rfl⟩
  | x :: r, h => by
    simp [has] at h
    have := bef_miss c r h.2
    simp [bef, aft, h.1, this.1, this.2]
theorem bef_hit (c : UInt8) : ∀ s, has c s = true → s = bef c s ++ c :: aft c s
  | [], h => by simp [has] at h
  | x :: r, h => by
    by_cases e : x = c
    · simp [bef, aft, e]
    · have h' : has c r = true := by simpa [has, e] using h
      simp only [bef, aft, if_neg e, List.cons_append]
      rw [← bef_hit c r h']
theorem bef_at (c : UInt8) (s : Str) (h : has c s = true) : s[(bef c s).length]? = some c := by
  have h0 := bef_hit c s h
  generalize bef c s = p at h0 ⊢
  rw [h0, List.getElem?_append_right (Nat.le_refl _)]
  simp
theorem bef_take (c : UInt8) (s : Str) : s.take (bef c s).length = bef c s := by
  cases hc : has c s with
  | true =>
    have h0 := bef_hit c s hc
    generalize bef c s = p at h0 ⊢
    rw [h0]
    simp
  | false => rw [(bef_miss c s hc).1, List.take_of_length_le (Nat.le_refl _)]
theorem aft_drop (c : UInt8) (s : Str) (h : has c s = true) : s.drop ((bef c s).length + 1) = aft c s := by
  have h0 := bef_hit c s h
  generalize bef c s = p at h0 ⊢
  generalize aft c s = q at h0 ⊢
  rw [h0]
  simp
theorem bef_not (c : UInt8) : ∀ s x, x ∈ bef c s → x ≠ c
  | [], x, h => by simp [bef] at h
  | y :: r, x, h => by
    unfold bef at h
    split at h
    · simp at h
    · rename_i hy
      rcases List.mem_cons.1 h with h | h
      · subst h; exact hy
      · exact bef_not c r x h
theorem indexByte_bef (c : UInt8) : ∀ s, Lib.indexByte s c = if has c s = true then ((bef c s).length : Int) else -1
  | [] => rfl
  | x :: r => by
    have ih := indexByte_bef c r
    unfold Lib.indexByte
    by_cases e : x = c
    · simp [e, has, bef]
    · have e' : (x == c) = false := by simpa using e
      simp only [e', has, bef, if_neg e, Bool.false_or, Bool.false_eq_true, if_false]
      rw [ih]
      by_cases hh : has c r = true
      · rw [if_pos hh, if_pos hh]
        rw [if_neg (by simp)]
        simp
      · rw [if_neg hh, if_neg hh]
        rfl
theorem eolN_bef : ∀ s, eolN s = (bef 10 s).length
  | [] => rfl
  | x :: r => by
    unfold eolN bef
    by_cases e : x = 10
    · subst e; simp
    · have e' : ¬ x.toNat = 10 := fun h => e ((toNat10 x).1 h)
      rw [if_neg e', if_neg e, eolN_bef r]
      simp

/-! ### lines -/
/-- The line that is left, without its end. -/
def lineS : Str → Str
  | [] => []
  | c :: r => if endL (c :: r) = true then [] else c :: lineS r
theorem lineS_nil_iff (s : Str) : lineS s = [] ↔ endL s = true := by
  cases s with
  | nil => simp [lineS, endL]
  | cons c r =>
    unfold lineS
    by_cases h : endL (c :: r) = true
    · simp [h]
    · rw [if_neg h]; simp [h]
theorem lineS_cons (c : UInt8) (r : Str) (h : endL (c :: r) = false) : lineS (c :: r) = c :: lineS r := by
  rw [lineS, if_neg (by simp [h])]
theorem endL_cons (c : UInt8) (r : Str) : endL (c :: r) = (c.toNat == 10 || (c.toNat == 13 && (match r with | [] => true | d :: _ => d.toNat == 10))) := by cases r <;> rfl
theorem trim_cons (c : UInt8) (t : Str) (ht : t ≠ []) : Lib.trimSuffix (c :: t) [13] = c :: Lib.trimSuffix t [13] := by
  unfold Lib.trimSuffix Lib.hasSuffix
  have hb : List.isSuffixOf [13] (c :: t) = List.isSuffixOf [13] t := by
    rw [Bool.eq_iff_iff, List.isSuffixOf_iff_suffix, List.isSuffixOf_iff_suffix, List.suffix_cons_iff]
    constructor
    · rintro (h | h)
      · injection h with _ h; exact absurd h.symm ht
      · exact h
    · exact fun h => .inr h
  rw [hb]
  have hl : 0 < t.length := List.length_pos_iff.2 ht
  split
  · rw [show (c :: t).length - ([13] : Str).length = t.length - ([13] : Str).length + 1 by simp; omega, List.take_succ_cons]
  · rfl
theorem trim_one (c : UInt8) : Lib.trimSuffix [c] [13] = if c = 13 then [] else [c] := by
  unfold Lib.trimSuffix Lib.hasSuffix
  by_cases e : c = 13
  · subst e; rfl
  · have : List.isSuffixOf [13] [c] = false := by
      rw [Bool.eq_false_iff]
      intro h
      rw [List.isSuffixOf_iff_suffix, List.suffix_cons_iff] at h
      rcases h with h | h
      · injection h with h _; exact e h.symm
      · simp at h
    rw [this]; simp [e]
theorem toNat13 (c : UInt8) : c.toNat = 13 ↔ c = 13 := by
  constructor
  · intro h; exact UInt8.toNat_inj.1 (by simpa using h)
  · rintro rfl; rfl
theorem lineS_eq : ∀ s, Lib.trimSuffix (bef 10 s) [13] = lineS s
  | [] => rfl
  | c :: r => by
    by_cases e : c = 10
    · subst e
      simp [bef, lineS, endL_cons]
      rfl
    · have e10 : ¬ c.toNat = 10 := fun h => e ((toNat10 c).1 h)
      have ih := lineS_eq r
      cases r with
      | nil =>
        simp only [bef, if_neg e, trim_one, lineS]
        by_cases h13 : c = 13
        · subst h13; simp [endL]
        · have h13' : ¬ c.toNat = 13 := fun h => h13 ((toNat13 c).1 h)
          simp [endL, e10, h13, h13']
      | cons d u =>
        by_cases hd : d = 10
        · subst hd
          have hb : bef 10 (c :: 10 :: u) = [c] := by simp [bef, e]
          rw [hb, trim_one]
          have hl : lineS (10 :: u) = [] := (lineS_nil_iff _).2 (by simp [endL_cons])
          by_cases h13 : c = 13
          · subst h13
            rw [if_pos rfl]
            exact ((lineS_nil_iff _).2 (by simp [endL_cons])).symm
          · have h13' : ¬ c.toNat = 13 := fun h => h13 ((toNat13 c).1 h)
            rw [if_neg h13, lineS_cons c _ (by simp [endL_cons, e10, h13']), hl]
        · have hd10 : ¬ d.toNat = 10 := fun h => hd ((toNat10 d).1 h)
          have hb : bef 10 (c :: d :: u) = c :: bef 10 (d :: u) := by rw [bef, if_neg e]
          rw [hb, trim_cons _ _ (by simp [bef, hd]), ih, lineS_cons c _ (by simp [endL_cons, e10, hd10])]
theorem lineS_head (s : Str) (c : UInt8) (h : lineS s ≠ []) : (lineS s).head? = s.head? := by
  cases s with
  | nil => rfl
  | cons x r =>
    have he : endL (x :: r) = false := by
      rw [Bool.eq_false_iff]
      exact fun he => h ((lineS_nil_iff _).2 he)
    rw [lineS_cons x r he]
    rfl
theorem lineS_len : ∀ s, (lineS s).length ≤ s.length
  | [] => Nat.le_refl _
  | c :: r => by
    unfold lineS
    have := lineS_len r
    split <;> simp <;> omega

/-! ### fields -/
/-- A quoted text behind its first quotation mark: what it stands for, and how many bytes it takes with its last mark. -/
def qEnd (Q : UInt8) : Str → Option (Str × Nat)
  | [] => none
  | [c] => if c = Q then some ([], 1) else none
  | c :: d :: r =>
    if c = Q then (if d = Q then (qEnd Q r).map (fun p => (c :: p.1, p.2 + 2)) else some ([], 1))
    else (qEnd Q (d :: r)).map (fun p => (c :: p.1, p.2 + 1))
theorem qEnd_other (Q c : UInt8) (r : Str) (h : c ≠ Q) : qEnd Q (c :: r) = (qEnd Q r).map (fun p => (c :: p.1, p.2 + 1)) := by
  cases r with
  | nil => simp [qEnd, h]
  | cons d u => rw [qEnd, if_neg h]
theorem qEnd_two (Q : UInt8) (r : Str) : qEnd Q (Q :: Q :: r) = (qEnd Q r).map (fun p => (Q :: p.1, p.2 + 2)) := by
  rw [qEnd, if_pos rfl, if_pos rfl]
theorem qEnd_one (Q : UInt8) (r : Str) (h : r.head? ≠ some Q) : qEnd Q (Q :: r) = some ([], 1) := by
  cases r with
  | nil => simp [qEnd]
  | cons d u =>
    rw [qEnd, if_pos rfl, if_neg]
    intro e; subst e; simp at h
theorem qEnd_len (Q : UInt8) : ∀ (k : Nat) (s : Str) (t : Str) (n : Nat), s.length ≤ k → qEnd Q s = some (t, n) → 1 ≤ n ∧ n ≤ s.length
  | _, [], t, n, _, h => by simp [qEnd] at h
  | _, [c], t, n, _, h => by
    unfold qEnd at h
    split at h
    · simp at h; simp; omega
    · simp at h
  | 0, c :: d :: r, t, n, hk, h => by simp at hk
  | k + 1, c :: d :: r, t, n, hk, h => by
    have hk' : r.length + 2 ≤ k + 1 := by simpa using hk
    unfold qEnd at h
    split at h
    · split at h
      · cases hq : qEnd Q r with
        | none => rw [hq] at h; simp at h
        | some p =>
          have := qEnd_len Q k r p.1 p.2 (by omega) hq
          rw [hq] at h; simp at h
          simp; omega
      · simp at h; simp; omega
    · cases hq : qEnd Q (d :: r) with
      | none => rw [hq] at h; simp at h
      | some p =>
        have := qEnd_len Q k (d :: r) p.1 p.2 (by simp; omega) hq
        rw [hq] at h; simp at h this
        simp; omega
theorem qEnd_miss (Q : UInt8) : ∀ s, has Q s = false → qEnd Q s = none
  | [], _ => rfl
  | x :: r, h => by
    simp [has] at h
    rw [qEnd_other Q x r h.1, qEnd_miss Q r h.2]
    rfl
/-- By pieces between quotation marks. -/
theorem qEnd_cut (Q : UInt8) : ∀ (p : Str) (r : Str), (∀ x ∈ p, x ≠ Q) → qEnd Q (p ++ Q :: r) =
    if r.head? = some Q then (qEnd Q r.tail).map (fun q => (p ++ Q :: q.1, p.length + 2 + q.2)) else some (p, p.length + 1)
  | [], r, _ => by
    cases r with
    | nil => simp [qEnd]
    | cons d u =>
      by_cases hd : d = Q
      · subst hd
        show qEnd d (d :: d :: u) = _
        rw [qEnd_two]
        simp
        congr 1
        funext q
        simp; omega
      · show qEnd Q (Q :: d :: u) = _
        rw [qEnd_one _ _ (by simpa using hd)]
        simp [hd]
  | x :: p, r, h => by
    have hx := h x (by simp)
    show qEnd Q (x :: (p ++ Q :: r)) = _
    rw [qEnd_other _ _ _ hx, qEnd_cut Q p r (fun y hy => h y (List.mem_cons_of_mem _ hy))]
    split
    · rw [Option.map_map]
      congr 1
      funext q
      simp; omega
    · simp

/-- A field, a record: what is read and where it goes on, or a problem and where it goes on. -/
inductive FRes where
  | ok (f : Fld) (x : Nat)
  | bad (p : Prob) (x : Nat)
inductive RRes where
  | ok (fs : List Fld) (x : Nat)
  | bad (p : Prob) (x : Nat)
/-- The place behind the end of the line. -/
def nxt (L : Str) (a : Nat) : Nat := if a + eolN (L.drop a) < L.length then a + eolN (L.drop a) + 1 else a + eolN (L.drop a)
def plainP (L : Str) (D Q : UInt8) (a : Nat) : FRes :=
  if has Q (bef D (lineS (L.drop a))) = true then
    .bad ⟨lineOf L (a + (bef Q (bef D (lineS (L.drop a)))).length), colP L (a + (bef Q (bef D (lineS (L.drop a)))).length), 8⟩ (nxt L (a + (bef Q (bef D (lineS (L.drop a)))).length))
  else .ok ⟨bef D (lineS (L.drop a)), colP L a, false⟩ (a + (bef D (lineS (L.drop a))).length)
def quotP (L : Str) (D Q : UInt8) (a : Nat) : FRes :=
  match qEnd Q (L.drop (a + 1)) with
  | none => .bad ⟨lineOf L a, colP L a, 8⟩ L.length
  | some (t, n) =>
    if endL (L.drop (a + 1 + n)) = true ∨ (L.drop (a + 1 + n)).head? = some D then .ok ⟨t, colP L a, true⟩ (a + 1 + n)
    else .bad ⟨lineOf L (a + 1 + n), colP L (a + 1 + n), 8⟩ (nxt L (a + 1 + n))
def fieldP (L : Str) (D Q : UInt8) (a : Nat) : FRes := if (L.drop a).head? = some Q then quotP L D Q a else plainP L D Q a
def recP (L : Str) (D Q : UInt8) : Nat → List Fld → Nat → RRes
  | 0, _, a => .bad ⟨lineOf L a, colP L a, 9⟩ (nxt L a)
  | n + 1, fs, a =>
    match fieldP L D Q a with
    | .bad p x => .bad p x
    | .ok f x => if endL (L.drop x) = true then .ok (fs ++ [f]) (nxt L x) else recP L D Q n (fs ++ [f]) (x + 1)
def parseP (L : Str) (D Q : UInt8) : Nat → Nat → List Rec → List Prob → List Rec × List Prob
  | 0, _, out, bad => (out, bad)
  | n + 1, a, out, bad =>
    if L.length ≤ a then (out, bad)
    else if endL (L.drop a) = true ∨ (L.drop a).head? = some 35 then parseP L D Q n (nxt L a) out bad
    else if out.length = 400 then (out, bad ++ [⟨lineOf L a, 1, 2⟩])
    else match recP L D Q 12 [] a with
      | .ok fs x => parseP L D Q n x (out ++ [⟨lineOf L a, fs⟩]) bad
      | .bad p x => parseP L D Q n x out (bad ++ [p])

/-! ### it goes on -/
theorem nxt_ge (L : Str) (a : Nat) : a ≤ nxt L a := by unfold nxt; split <;> omega
theorem nxt_gt (L : Str) (a : Nat) (h : a < L.length) : a < nxt L a := by
  unfold nxt
  split
  · omega
  · rename_i hn
    rw [List.drop_eq_getElem_cons h] at hn ⊢
    unfold eolN at hn ⊢
    split
    · rename_i h10; rw [if_pos h10] at hn; omega
    · omega
theorem nxt_le (L : Str) (a : Nat) (h : a ≤ L.length) : nxt L a ≤ L.length := by
  have h1 := eolN_le (L.drop a)
  rw [List.length_drop] at h1
  unfold nxt
  split <;> omega
def FRes.place : FRes → Nat
  | .ok _ x => x
  | .bad _ x => x
def RRes.place : RRes → Nat
  | .ok _ x => x
  | .bad _ x => x
theorem field_ok (L : Str) (D Q : UInt8) (a : Nat) (f : Fld) (x : Nat) (h : fieldP L D Q a = .ok f x) (ha : a ≤ L.length) : a ≤ x ∧ x ≤ L.length := by
  unfold fieldP at h
  split at h
  · rename_i hq
    unfold quotP at h
    split at h
    · simp at h
    · rename_i t n hqe
      have h1 := qEnd_len Q _ _ t n (Nat.le_refl _) hqe
      rw [List.length_drop] at h1
      have hlt : a < L.length := by
        rcases Nat.lt_or_ge a L.length with h | h
        · exact h
        · rw [List.drop_of_length_le h] at hq; simp at hq
      split at h
      · injection h with _ h; omega
      · simp at h
  · unfold plainP at h
    split at h
    · simp at h
    · injection h with _ h
      have h1 := bef_le D (lineS (L.drop a))
      have h2 := lineS_len (L.drop a)
      rw [List.length_drop] at h2
      omega
theorem field_bad (L : Str) (D Q : UInt8) (a : Nat) (p : Prob) (x : Nat) (h : fieldP L D Q a = .bad p x) (ha : a < L.length) : a < x ∧ x ≤ L.length := by
  unfold fieldP at h
  split at h
  · unfold quotP at h
    split at h
    · injection h with _ h; omega
    · rename_i t n hqe
      have h1 := qEnd_len Q _ _ t n (Nat.le_refl _) hqe
      rw [List.length_drop] at h1
      split at h
      · simp at h
      · injection h with _ h
        have h2 := nxt_ge L (a + 1 + n)
        have h3 := nxt_le L (a + 1 + n) (by omega)
        omega
  · unfold plainP at h
    split at h
    · rename_i hh
      injection h with _ h
      have h1 := bef_le D (lineS (L.drop a))
      have h2 := lineS_len (L.drop a)
      have h0 := bef_hit Q _ hh
      have h0' := congrArg List.length h0
      simp only [List.length_append, List.length_cons] at h0'
      rw [List.length_drop] at h2
      have h3 := nxt_gt L (a + (bef Q (bef D (lineS (L.drop a)))).length) (by omega)
      have h4 := nxt_le L (a + (bef Q (bef D (lineS (L.drop a)))).length) (by omega)
      omega
    · simp at h
theorem end_lt (L : Str) (a : Nat) (h : endL (L.drop a) = false) : a < L.length := by
  rcases Nat.lt_or_ge a L.length with h' | h'
  · exact h'
  · rw [List.drop_of_length_le h'] at h; simp [endL] at h
theorem rec_place (L : Str) (D Q : UInt8) : ∀ (n : Nat) (fs : List Fld) (a : Nat), a < L.length → a < (recP L D Q n fs a).place ∧ (recP L D Q n fs a).place ≤ L.length
  | 0, fs, a, h => ⟨nxt_gt L a h, nxt_le L a (by omega)⟩
  | n + 1, fs, a, h => by
    unfold recP
    cases hf : fieldP L D Q a with
    | bad p x => exact field_bad L D Q a p x hf h
    | ok f x =>
      have hx := field_ok L D Q a f x hf (by omega)
      simp only
      split
      · rcases Nat.lt_or_ge x L.length with h' | h'
        · exact ⟨Nat.lt_of_le_of_lt hx.1 (nxt_gt L x h'), nxt_le L x hx.2⟩
        · have : nxt L x = x := by
            have := nxt_ge L x
            have := nxt_le L x hx.2
            omega
          show a < nxt L x ∧ nxt L x ≤ _
          omega
      · rename_i he
        have he' : endL (L.drop x) = false := by simpa using he
        have hl := end_lt L x he'
        rcases Nat.lt_or_ge (x + 1) L.length with h' | h'
        · have := rec_place L D Q n (fs ++ [f]) (x + 1) h'
          omega
        · have e : x + 1 = L.length := by omega
          rw [e]
          exact rec_end L D Q n (fs ++ [f]) a h
where
  rec_end (L : Str) (D Q : UInt8) : ∀ (n : Nat) (fs : List Fld) (a : Nat), a < L.length → a < (recP L D Q n fs L.length).place ∧ (recP L D Q n fs L.length).place ≤ L.length
  | 0, fs, a, h => by
    have := nxt_ge L L.length
    have := nxt_le L L.length (Nat.le_refl _)
    show a < nxt L L.length ∧ nxt L L.length ≤ _
    omega
  | n + 1, fs, a, h => by
    have hd : L.drop L.length = [] := List.drop_of_length_le (Nat.le_refl _)
    have hf : fieldP L D Q L.length = .ok ⟨[], colP L L.length, false⟩ L.length := by
      unfold fieldP plainP
      simp [hd, lineS, bef, has]
    unfold recP
    rw [hf]
    simp only [hd]
    rw [if_pos (by rfl)]
    have := nxt_ge L L.length
    have := nxt_le L L.length (Nat.le_refl _)
    show a < nxt L L.length ∧ nxt L L.length ≤ _
    omega
theorem parseP_fuel (L : Str) (D Q : UInt8) : ∀ (n m a : Nat) (out : List Rec) (bad : List Prob), L.length - a < n → L.length - a < m → parseP L D Q n a out bad = parseP L D Q m a out bad
  | 0, m, a, out, bad, h, _ => by omega
  | n + 1, 0, a, out, bad, _, h => by omega
  | n + 1, m + 1, a, out, bad, hn, hm => by
    unfold parseP
    split
    · rfl
    · rename_i ha
      have ha' : a < L.length := by omega
      have hx := nxt_gt L a ha'
      split
      · exact parseP_fuel L D Q n m _ _ _ (by omega) (by omega)
      · split
        · rfl
        · have hr := (rec_place L D Q 12 [] a ha').1
          cases hrec : recP L D Q 12 [] a with
          | ok fs x =>
            rw [hrec] at hr
            simp only [RRes.place] at hr
            exact parseP_fuel L D Q n m _ _ _ (by omega) (by omega)
          | bad p x =>
            rw [hrec] at hr
            simp only [RRes.place] at hr
            exact parseP_fuel L D Q n m _ _ _ (by omega) (by omega)
/-- The records and the problems from a place on. -/
def parseR (L : Str) (D Q : UInt8) (a : Nat) (out : List Rec) (bad : List Prob) : List Rec × List Prob := parseP L D Q (L.length - a + 1) a out bad
theorem parseR_end (L : Str) (D Q : UInt8) (a : Nat) (out : List Rec) (bad : List Prob) (h : L.length ≤ a) : parseR L D Q a out bad = (out, bad) := by
  unfold parseR parseP
  rw [if_pos h]
theorem parseR_skip (L : Str) (D Q : UInt8) (a : Nat) (out : List Rec) (bad : List Prob) (h : a < L.length) (hs : endL (L.drop a) = true ∨ (L.drop a).head? = some 35) : parseR L D Q a out bad = parseR L D Q (nxt L a) out bad := by
  have hx := nxt_gt L a h
  show parseP L D Q (L.length - a + 1) a out bad = _
  unfold parseP
  rw [if_neg (by omega), if_pos hs]
  exact parseP_fuel L D Q _ _ _ _ _ (by omega) (by omega)
theorem parseR_full (L : Str) (D Q : UInt8) (a : Nat) (out : List Rec) (bad : List Prob) (h : a < L.length) (hs : ¬ (endL (L.drop a) = true ∨ (L.drop a).head? = some 35)) (ho : out.length = 400) : parseR L D Q a out bad = (out, bad ++ [⟨lineOf L a, 1, 2⟩]) := by
  unfold parseR parseP
  rw [if_neg (by omega), if_neg hs, if_pos ho]
theorem parseR_ok (L : Str) (D Q : UInt8) (a : Nat) (out : List Rec) (bad : List Prob) (h : a < L.length) (hs : ¬ (endL (L.drop a) = true ∨ (L.drop a).head? = some 35)) (ho : out.length ≠ 400) (fs : List Fld) (x : Nat) (hr : recP L D Q 12 [] a = .ok fs x) : parseR L D Q a out bad = parseR L D Q x (out ++ [⟨lineOf L a, fs⟩]) bad := by
  have hx := (rec_place L D Q 12 [] a h).1
  rw [hr] at hx
  simp only [RRes.place] at hx
  show parseP L D Q (L.length - a + 1) a out bad = _
  unfold parseP
  rw [if_neg (by omega), if_neg hs, if_neg ho, hr]
  exact parseP_fuel L D Q _ _ _ _ _ (by omega) (by omega)
theorem parseR_bad (L : Str) (D Q : UInt8) (a : Nat) (out : List Rec) (bad : List Prob) (h : a < L.length) (hs : ¬ (endL (L.drop a) = true ∨ (L.drop a).head? = some 35)) (ho : out.length ≠ 400) (p : Prob) (x : Nat) (hr : recP L D Q 12 [] a = .bad p x) : parseR L D Q a out bad = parseR L D Q x out (bad ++ [p]) := by
  have hx := (rec_place L D Q 12 [] a h).1
  rw [hr] at hx
  simp only [RRes.place] at hx
  show parseP L D Q (L.length - a + 1) a out bad = _
  unfold parseP
  rw [if_neg (by omega), if_neg hs, if_neg ho, hr]
  exact parseP_fuel L D Q _ _ _ _ _ (by omega) (by omega)
/-- What Parse returns. -/
def parseM (D Q : UInt8) (L : Str) : List Rec × List Prob :=
  if validB D Q = true then (if 65536 < L.length then ([], [⟨0, 0, 2⟩]) else parseR L D Q 0 [] []) else ([], [⟨0, 0, 1⟩])

/-! ### beginnings of lines -/
theorem eol_at (L : Str) (a : Nat) (h : a + eolN (L.drop a) < L.length) : L[a + eolN (L.drop a)]? = some 10 := by
  have hh : has 10 (L.drop a) = true := by
    cases hc : has 10 (L.drop a) with
    | true => rfl
    | false =>
      have := (bef_miss 10 _ hc).1
      rw [eolN_bef, this, List.length_drop] at h
      omega
  have : (L.drop a)[eolN (L.drop a)]? = some 10 := by
    rw [eolN_bef]
    exact bef_at 10 _ hh
  rwa [List.getElem?_drop] at this
theorem begOf_nxt (L : Str) (a : Nat) (h : nxt L a < L.length) : begOf L (nxt L a) = nxt L a := by
  unfold nxt at h ⊢
  split
  · rename_i hlt
    show (if L[a + eolN (L.drop a)]? = some 10 then a + eolN (L.drop a) + 1 else _) = _
    rw [if_pos (eol_at L a hlt)]
  · rename_i hn
    rw [if_neg hn] at h
    exact absurd h hn
theorem lineOf_nxt (L : Str) (a : Nat) (h : nxt L a < L.length) : lineOf L (nxt L a) = lineOf L a + 1 := by
  unfold nxt at h ⊢
  split
  · rename_i hlt
    have hat := eol_at L a hlt
    have h1 : L[a + eolN (L.drop a)] = 10 := by
      rw [List.getElem?_eq_getElem hlt] at hat
      injection hat
    rw [lineOf_step L _ hlt, if_pos h1, lineOf_add]
    have hz : List.count 10 ((L.drop a).take (eolN (L.drop a))) = 0 := by
      rw [List.count_eq_zero]
      intro hm
      have : (L.drop a).take (eolN (L.drop a)) = bef 10 (L.drop a) := by
        rw [eolN_bef, bef_take]
      rw [this] at hm
      exact bef_not 10 _ _ hm rfl
    omega
  · rename_i hn
    rw [if_neg hn] at h
    exact absurd h hn
theorem nextP_nxt (S : ByteArray) (a : Nat) : nextP S a = nxt S.data.toList a := by
  unfold nextP nxt
  rw [Lib.size_eq]
/-! ### a field that is not quoted, byte by byte -/
def PInv (L : Str) (D Q : UInt8) (a a' : Nat) : Prop :=
  bef D (lineS (L.drop a)) = (L.drop a).take (a' - a) ++ bef D (lineS (L.drop a')) ∧ has Q ((L.drop a).take (a' - a)) = false
theorem has_app (c : UInt8) : ∀ s t, has c (s ++ t) = (has c s || has c t)
  | [], t => by simp [has]
  | x :: s, t => by simp [has, has_app c s t, Bool.or_assoc]
theorem bef_app (c : UInt8) : ∀ s t, has c s = false → bef c (s ++ t) = s ++ bef c t
  | [], t, _ => rfl
  | x :: s, t, h => by
    simp [has] at h
    simp only [List.cons_append, bef, if_neg h.1]
    rw [bef_app c s t h.2]
theorem PInv.start (L : Str) (D Q : UInt8) (a : Nat) : PInv L D Q a a := by
  unfold PInv
  simp [has]
theorem text_cons (D c : UInt8) (r : Str) (h : endL (c :: r) = false) : bef D (lineS (c :: r)) = if c = D then [] else c :: bef D (lineS r) := by
  rw [lineS_cons c r h, bef]
theorem PInv.step {L : Str} {D Q : UInt8} {a a' : Nat} (h : PInv L D Q a a') (ha : a ≤ a') (hlt : a' < L.length) (he : endL (L.drop a') = false) (hD : L[a'] ≠ D) (hQ : L[a'] ≠ Q) : PInv L D Q a (a' + 1) := by
  obtain ⟨h1, h2⟩ := h
  have ht : (L.drop a).take (a' + 1 - a) = (L.drop a).take (a' - a) ++ [L[a']] := by
    rw [show a' + 1 - a = (a' - a) + 1 by omega, List.take_add_one, List.getElem?_drop, show a + (a' - a) = a' by omega, List.getElem?_eq_getElem hlt]
    rfl
  unfold PInv
  rw [ht]
  refine ⟨?_, ?_⟩
  · rw [h1, List.drop_eq_getElem_cons hlt, text_cons _ _ _ (by rw [← List.drop_eq_getElem_cons hlt]; exact he), if_neg hD]
    simp
  · rw [has_app, h2]
    simp [has, hQ]
theorem PInv.done {L : Str} {D Q : UInt8} {a a' : Nat} (h : PInv L D Q a a') (ha : a ≤ a') (hle : a' ≤ L.length) (he : endL (L.drop a') = true ∨ ∃ hlt : a' < L.length, endL (L.drop a') = false ∧ L[a'] = D) :
    plainP L D Q a = .ok ⟨(L.drop a).take (a' - a), colP L a, false⟩ a' := by
  obtain ⟨h1, h2⟩ := h
  have ht : bef D (lineS (L.drop a')) = [] := by
    rcases he with he | ⟨hlt, he, hc⟩
    · rw [(lineS_nil_iff _).2 he]; rfl
    · rw [List.drop_eq_getElem_cons hlt, text_cons _ _ _ (by rw [← List.drop_eq_getElem_cons hlt]; exact he), if_pos hc]
  rw [ht, List.append_nil] at h1
  unfold plainP
  rw [h1, h2]
  simp only [Bool.false_eq_true, if_false]
  rw [List.length_take, List.length_drop, show a + min (a' - a) (L.length - a) = a' by omega]
theorem PInv.bad {L : Str} {D Q : UInt8} {a a' : Nat} (h : PInv L D Q a a') (ha : a ≤ a') (hlt : a' < L.length) (he : endL (L.drop a') = false) (hD : L[a'] ≠ D) (hQ : L[a'] = Q) :
    plainP L D Q a = .bad ⟨lineOf L a', colP L a', 8⟩ (nxt L a') := by
  obtain ⟨h1, h2⟩ := h
  rw [List.drop_eq_getElem_cons hlt, text_cons _ _ _ (by rw [← List.drop_eq_getElem_cons hlt]; exact he), if_neg hD] at h1
  have hb : (bef Q (bef D (lineS (L.drop a)))).length = a' - a := by
    rw [h1, bef_app _ _ _ h2, bef, if_pos hQ, List.append_nil, List.length_take, List.length_drop]
    omega
  have hh : has Q (bef D (lineS (L.drop a))) = true := by
    rw [h1, has_app]
    simp [has, hQ]
  unfold plainP
  rw [if_pos hh, hb, show a + (a' - a) = a' by omega]
/-! ### a quoted field, byte by byte -/
def QInv (L : Str) (Q : UInt8) (o a' : Nat) (b : Str) : Prop := qEnd Q (L.drop o) = (qEnd Q (L.drop a')).map (fun p => (b ++ p.1, a' - o + p.2))
theorem QInv.start (L : Str) (Q : UInt8) (o : Nat) : QInv L Q o o [] := by
  unfold QInv
  simp
theorem QInv.open_ {L : Str} {Q : UInt8} {o a' : Nat} {b : Str} (h : QInv L Q o a' b) (ha : has Q (L.drop a') = false) : qEnd Q (L.drop o) = none := by
  rw [h, qEnd_miss _ _ ha]
  rfl
theorem QInv.end_ {L : Str} {Q : UInt8} {o a' : Nat} {b : Str} (h : QInv L Q o a' b) (ha : L.length ≤ a') : qEnd Q (L.drop o) = none :=
  h.open_ (by rw [List.drop_of_length_le ha]; rfl)
theorem QInv.other {L : Str} {Q : UInt8} {o a' : Nat} {b : Str} (h : QInv L Q o a' b) (ho : o ≤ a') (hlt : a' < L.length) (hc : L[a'] ≠ Q) : QInv L Q o (a' + 1) (b ++ [L[a']]) := by
  unfold QInv at h ⊢
  rw [h, List.drop_eq_getElem_cons hlt, qEnd_other _ _ _ hc, Option.map_map]
  congr 1
  funext q
  simp only [Function.comp, List.append_assoc, List.singleton_append, Prod.mk.injEq, true_and]
  omega
theorem QInv.two {L : Str} {Q : UInt8} {o a' : Nat} {b : Str} (h : QInv L Q o a' b) (ho : o ≤ a') (hlt : a' + 1 < L.length) (hc : L[a'] = Q) (hc' : L[a' + 1] = Q) : QInv L Q o (a' + 1 + 1) (b ++ [Q]) := by
  unfold QInv at h ⊢
  rw [h, List.drop_eq_getElem_cons (by omega : a' < L.length), List.drop_eq_getElem_cons hlt, hc, hc', qEnd_two, Option.map_map]
  congr 1
  funext q
  simp only [Function.comp, List.append_assoc, List.singleton_append, Prod.mk.injEq, true_and]
  omega
theorem QInv.done {L : Str} {Q : UInt8} {o a' : Nat} {b : Str} (h : QInv L Q o a' b) (hlt : a' < L.length) (hc : L[a'] = Q) (hn : (L.drop (a' + 1)).head? ≠ some Q) : qEnd Q (L.drop o) = some (b, a' - o + 1) := by
  rw [h, List.drop_eq_getElem_cons hlt, hc, qEnd_one _ _ hn]
  simp
theorem QInv.cut {L : Str} {Q : UInt8} {o a' : Nat} {b : Str} (h : QInv L Q o a' b) (ho : o ≤ a') (hh : has Q (L.drop a') = true) :
    if (aft Q (L.drop a')).head? = some Q then QInv L Q o (a' + (bef Q (L.drop a')).length + 2) (b ++ bef Q (L.drop a') ++ [Q]) ∧ a' + (bef Q (L.drop a')).length + 2 ≤ L.length
    else qEnd Q (L.drop o) = some (b ++ bef Q (L.drop a'), a' - o + (bef Q (L.drop a')).length + 1) ∧ a' + (bef Q (L.drop a')).length + 1 ≤ L.length := by
  have h0 := bef_hit Q _ hh
  have hd := aft_drop Q _ hh
  rw [List.drop_drop] at hd
  have hne := bef_not Q (L.drop a')
  have hlen := congrArg List.length h0
  rw [List.length_drop, List.length_append, List.length_cons] at hlen
  generalize bef Q (L.drop a') = p at h0 hne hlen hd ⊢
  generalize aft Q (L.drop a') = r at h0 hlen hd ⊢
  have hq := qEnd_cut Q p r hne
  rw [← h0] at hq
  split
  · rename_i hr
    rw [if_pos hr] at hq
    cases r with
    | nil => simp at hr
    | cons x t =>
      simp at hr
      subst hr
      refine ⟨?_, by simp at hlen; omega⟩
      have ht : L.drop (a' + p.length + 2) = t := by
        rw [show a' + p.length + 2 = a' + (p.length + 1) + 1 by omega, ← List.drop_drop, hd]
        rfl
      unfold QInv at h ⊢
      rw [h, hq, ht, Option.map_map]
      simp only [List.tail_cons]
      congr 1
      funext q
      simp only [Function.comp, List.append_assoc, List.singleton_append, Prod.mk.injEq, true_and]
      omega
  · rename_i hr
    rw [if_neg hr] at hq
    refine ⟨?_, by omega⟩
    rw [h, hq]
    simp
    omega
theorem parse_example : (parseM 44 34 [97, 44, 34, 98, 44, 99, 34, 44, 100, 10]).1.map (fun r => r.fields.map (fun f => (f.text, f.col, f.quoted))) = [[([97], 1, false), ([98, 44, 99], 3, true), ([100], 9, false)]] := by decide
theorem parse_quote : (parseM 44 34 [97, 34, 98]).2.map (fun p => (p.line, p.col, p.code)) = [(1, 2, 8)] := by decide
end Go.Proofs.YtcpkefjijinhiaaDoor
