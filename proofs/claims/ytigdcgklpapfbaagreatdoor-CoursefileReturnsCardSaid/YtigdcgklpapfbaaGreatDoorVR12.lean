/-
  Times and rooms in memory: slices of structs that came in, or that the call made. No program beyond the types' facts.
  Numbers with a width, and a code's last number: plain mathematics. No program, no conditions.
  Natural order: the program's compareNumbers, compareElements. Conditions: the strings fit into memory.
  Natural order: the program's Compare. Conditions: the strings fit into memory.
  What the library's variables hold, and a code taken apart: the program's divide. Conditions: the library's variables hold what its text lays; the string has at most 16 bytes.
  The code whose number is greater: the program's after. Conditions: the library's variables hold what its text lays; the numbers are small.
  How many codes a range has: the program's rangeLength. Conditions: the library's variables hold what its text lays; both strings have at most 16 bytes.
-/
import Derived.Test.YtigdcgklpapfbaaGreatDoorVR11
import Derived.Shelf.Strings.SlTrimAscii
set_option linter.unusedVariables false
namespace Go.Proofs.YtigdcgklpapfbaaGreatDoor
open Go Go.Proofs Go.RowKit Go.Lib

/-- The slice at A holds the times l, in a block with P. -/
def TimesIn (w : World) (P : Nat → Prop) (A : Option Addr) (l : List TimeD) : Prop :=
  (∀ t ∈ l, t.2.2.1 ≤ 9223372036854775807) ∧ (l = [] ∨ ∃ b off, A = some ⟨b, off, none⟩ ∧ P b ∧ ∀ (j : Nat) (t : TimeD), l[j]? = some t → ∀ (i : Nat) (v : Value), (timeVs t)[i]? = some v → w.cell? ⟨b, off + j * 4 + i, none⟩ = some v)
theorem TimesIn.nil (w : World) (P : Nat → Prop) (A : Option Addr) : TimesIn w P A [] := ⟨fun t h => by simp at h, .inl rfl⟩
theorem TimesIn.kept {w w' : World} {P : Nat → Prop} {A : Option Addr} {l : List TimeD} (h : TimesIn w P A l) (hk : ∀ b, P b → w'.heap[b]? = w.heap[b]?) : TimesIn w' P A l := by
  rcases h with ⟨hle, h | ⟨b, off, hA, hP, hc⟩⟩
  · exact ⟨hle, .inl h⟩
  · exact ⟨hle, .inr ⟨b, off, hA, hP, fun j t hj i v hv => (World.cell?_of_block (w := w) (hk b hP)).trans (hc j t hj i v hv)⟩⟩
theorem TimesIn.mono {w : World} {P P' : Nat → Prop} {A : Option Addr} {l : List TimeD} (h : TimesIn w P A l) (hP : ∀ b, P b → P' b) : TimesIn w P' A l := by
  rcases h with ⟨hle, h | ⟨b, off, hA, hb, hc⟩⟩
  · exact ⟨hle, .inl h⟩
  · exact ⟨hle, .inr ⟨b, off, hA, hP b hb, hc⟩⟩
theorem TimesIn.at_ {w : World} {P : Nat → Prop} {A : Option Addr} {l : List TimeD} (h : TimesIn w P A l) {k : Nat} (hk : k < l.length) :
    ∃ b off, A = some ⟨b, off, none⟩ ∧ P b ∧ w.cell? ⟨b, off + k * 4, none⟩ = some (.int .i64 l[k].1) ∧ w.cell? ⟨b, off + k * 4 + 1, none⟩ = some (.int .i64 l[k].2.1) ∧ w.cell? ⟨b, off + k * 4 + 2, none⟩ = some (.int .i64 l[k].2.2.1) ∧ w.cell? ⟨b, off + k * 4 + 3, none⟩ = some (.int .i64 l[k].2.2.2) := by
  rcases h with ⟨hle, h | ⟨b, off, hA, hP, hc⟩⟩
  · subst h; simp at hk
  · have hg := List.getElem?_eq_getElem hk
    exact ⟨b, off, hA, hP, hc k _ hg 0 _ rfl, hc k _ hg 1 _ rfl, hc k _ hg 2 _ rfl, hc k _ hg 3 _ rfl⟩
theorem S3.StrsIn.below {w w' : World} {B : Nat} {A : Option Addr} {l : List Str} (h : S3.StrsIn w (fun b => b < B) A l) (hb : Below B w w') : S3.StrsIn w' (fun b => b < B) A l := h.kept fun b hB => hb.block b hB

/-- The five parts of a room, as they lie in memory. -/
structure Room5 where
  a1 : Option Addr
  c1 : Nat
  a2 : Option Addr
  c2 : Nat
def roomV (r : RoomD) (q : Room5) : Value := .agg #[.string (ba r.1), .string (ba r.2.1), .int .i64 r.2.2.1, .slice q.a1 r.2.2.2.1.length q.c1, .slice q.a2 r.2.2.2.2.length q.c2]
/-- What a room's slices lead to. -/
structure RoomIn (w : World) (P : Nat → Prop) (r : RoomD) (q : Room5) : Prop where
  f : S3.StrsIn w P q.a1 r.2.2.2.1
  t : TimesIn w P q.a2 r.2.2.2.2
  f1 : r.2.2.2.1.length ≤ q.c1
  f2 : q.c1 ≤ 9223372036854775807
  t1 : r.2.2.2.2.length ≤ q.c2
  t2 : q.c2 ≤ 9223372036854775807
end Go.Proofs.YtigdcgklpapfbaaGreatDoor

set_option linter.unusedVariables false
namespace Go.Proofs.YtigdcgklpapfbaaGreatDoor.S3
open Go Go.Lib

def Dgs (l : Str) : Prop := ∀ c ∈ l, dg c = true
def numN (l : Str) : Nat := l.foldl (fun n c => 10 * n + (c.toNat - 48)) 0
theorem dg_val {c : UInt8} (h : dg c = true) : 48 ≤ c.toNat ∧ c.toNat ≤ 57 := by simpa [dg] using h
theorem decFrom_fold : ∀ (l : Str) (acc : Nat), Dgs l → Lib.decFrom acc l = some (l.foldl (fun n c => 10 * n + (c.toNat - 48)) acc)
  | [], acc, _ => rfl
  | c :: r, acc, h => by
    have hc := dg_val (h c (by simp))
    unfold Lib.decFrom Lib.digitVal
    rw [if_pos hc]
    simp only
    rw [decFrom_fold r _ (fun x hx => h x (List.mem_cons_of_mem _ hx)), List.foldl_cons, Nat.mul_comm acc 10]
theorem atoi_num (l : Str) (h0 : l ≠ []) (h : Dgs l) : Lib.atoi l = some (numN l : Int) := by
  cases l with
  | nil => exact absurd rfl h0
  | cons c r =>
    have hc := dg_val (h c (by simp))
    have e1 : (c == 45) = false := by
      rw [beq_eq_false_iff_ne]
      rintro rfl
      simp at hc
    have e2 : (c == 43) = false := by
      rw [beq_eq_false_iff_ne]
      rintro rfl
      simp at hc
    unfold Lib.atoi
    dsimp only
    rw [e1, e2, if_neg (by simp), if_neg (by simp)]
    unfold Lib.decNat
    rw [if_neg (by simp), decFrom_fold _ 0 h]
    rfl
theorem numN_snoc (l : Str) (c : UInt8) : numN (l ++ [c]) = 10 * numN l + (c.toNat - 48) := by simp [numN]
theorem fold_le : ∀ (l : Str) (acc : Nat), Dgs l → l.foldl (fun n c => 10 * n + (c.toNat - 48)) acc < (acc + 1) * 10 ^ l.length
  | [], acc, _ => by simp
  | c :: r, acc, h => by
    have hc := dg_val (h c (by simp))
    have ih := fold_le r (10 * acc + (c.toNat - 48)) (fun x hx => h x (List.mem_cons_of_mem _ hx))
    rw [List.foldl_cons, List.length_cons, Nat.pow_succ]
    refine Nat.lt_of_lt_of_le ih ?_
    rw [Nat.mul_comm (10 ^ r.length) 10, ← Nat.mul_assoc]
    exact Nat.mul_le_mul_right _ (by omega)
theorem numN_lt (l : Str) (h : Dgs l) : numN l < 10 ^ l.length := by
  have := fold_le l 0 h
  simpa [numN] using this
theorem numN_small (l : Str) (h : Dgs l) (hl : l.length ≤ 16) : numN l < 10000000000000000 := by
  have h1 := numN_lt l h
  have h2 : 10 ^ l.length ≤ 10 ^ 16 := Nat.pow_le_pow_right (by omega) hl
  have h3 : 10 ^ 16 = 10000000000000000 := by decide
  omega
theorem dec_small {u : Nat} (h : u < 10) : decDigits u = [UInt8.ofNat (48 + u)] := Lib.decDigits_one h
theorem dec_step (m d : Nat) (hm : 1 ≤ m) (hd : d < 10) : decDigits (10 * m + d) = decDigits m ++ [UInt8.ofNat (48 + d)] := by
  conv => lhs; rw [decDigits]
  rw [dif_neg (by omega), show (10 * m + d) / 10 = m by omega, show (10 * m + d) % 10 = d by omega]
theorem ofNat_val {d : Nat} (h : d < 10) : (UInt8.ofNat (48 + d)).toNat = 48 + d := by
  simp
  omega
theorem dg_ofNat {d : Nat} (h : d < 10) : dg (UInt8.ofNat (48 + d)) = true := by
  unfold dg
  rw [ofNat_val h]
  simp
  omega
theorem dec_facts : ∀ (n u : Nat), u ≤ n → Dgs (decDigits u) ∧ numN (decDigits u) = u ∧ 1 ≤ (decDigits u).length
  | 0, u, h => by
    obtain rfl : u = 0 := by omega
    rw [dec_small (by omega)]
    refine ⟨fun c hc => ?_, rfl, by simp⟩
    obtain rfl : c = UInt8.ofNat (48 + 0) := by simpa using hc
    decide
  | n + 1, u, h => by
    by_cases hu : u < 10
    · rw [dec_small hu]
      refine ⟨fun c hc => ?_, ?_, by simp⟩
      · obtain rfl : c = UInt8.ofNat (48 + u) := by simpa using hc
        exact dg_ofNat hu
      · show 10 * 0 + ((UInt8.ofNat (48 + u)).toNat - 48) = u
        rw [ofNat_val hu]
        omega
    · obtain ⟨m, d, hm, hd, rfl⟩ : ∃ m d, 1 ≤ m ∧ d < 10 ∧ u = 10 * m + d := ⟨u / 10, u % 10, by omega, by omega, by omega⟩
      obtain ⟨h1, h2, h3⟩ := dec_facts n m (by omega)
      rw [dec_step m d hm hd]
      refine ⟨fun c hc => ?_, ?_, by simp⟩
      · rcases List.mem_append.1 hc with hc | hc
        · exact h1 c hc
        · obtain rfl : c = UInt8.ofNat (48 + d) := by simpa using hc
          exact dg_ofNat hd
      · rw [numN_snoc, h2, ofNat_val hd]
        omega
theorem dec_dgs (u : Nat) : Dgs (decDigits u) := (dec_facts u u (Nat.le_refl _)).1
theorem dec_num (u : Nat) : numN (decDigits u) = u := (dec_facts u u (Nat.le_refl _)).2.1
theorem dec_pos (u : Nat) : 1 ≤ (decDigits u).length := (dec_facts u u (Nat.le_refl _)).2.2
theorem dec_len (u k : Nat) (h : u < 10 ^ k) (hk : 1 ≤ k) : (decDigits u).length ≤ k := by
  induction k generalizing u with
  | zero => omega
  | succ k ih =>
    by_cases hu : u < 10
    · rw [dec_small hu]
      simp
    · obtain ⟨m, d, hm, hd, rfl⟩ : ∃ m d, 1 ≤ m ∧ d < 10 ∧ u = 10 * m + d := ⟨u / 10, u % 10, by omega, by omega, by omega⟩
      rw [dec_step m d hm hd, List.length_append]
      rw [Nat.pow_succ] at h
      have hk' : 1 ≤ k := by
        rcases Nat.eq_zero_or_pos k with h0 | h0
        · subst h0; simp at h; omega
        · exact h0
      have := ih m (by omega) hk'
      simp
      omega
def zerosS (k : Nat) : Str := List.replicate k 48
/-- A number in decimal with a width. -/
def wrS (n w : Nat) : Str := zerosS (w - (decDigits n).length) ++ decDigits n
theorem num_zeros : ∀ (k : Nat) (l : Str), numN (zerosS k ++ l) = numN l
  | 0, l => rfl
  | k + 1, l => by
    have ih := num_zeros k l
    unfold numN zerosS at ih ⊢
    rw [List.replicate_succ]
    simpa using ih
theorem wr_num (n w : Nat) : numN (wrS n w) = n := by unfold wrS; rw [num_zeros, dec_num]
theorem wr_dgs (n w : Nat) : Dgs (wrS n w) := fun c hc => by
  rcases List.mem_append.1 hc with hc | hc
  · obtain rfl : c = 48 := List.eq_of_mem_replicate hc
    decide
  · exact dec_dgs n c hc
theorem wr_len (n w : Nat) : (wrS n w).length = max w (decDigits n).length := by
  unfold wrS zerosS
  rw [List.length_append, List.length_replicate]
  omega
theorem wr_ne (n w : Nat) : wrS n w ≠ [] := fun e => by
  have h1 := wr_len n w
  have h2 := dec_pos n
  rw [e] at h1
  simp at h1
  omega
/-! ### the last number of a code -/
def preS (s : Str) : Str := (s.reverse.dropWhile dg).reverse
def lastS (s : Str) : Str := s.drop (preS s).length
theorem digits_dg (c : UInt8) : ([48, 49, 50, 51, 52, 53, 54, 55, 56, 57] : Str).contains c = dg c := by
  unfold dg
  rw [Bool.eq_iff_iff]
  simp only [List.contains_iff_mem, List.mem_cons, List.not_mem_nil, or_false, Bool.and_eq_true, decide_eq_true_eq]
  constructor
  · rintro (rfl | rfl | rfl | rfl | rfl | rfl | rfl | rfl | rfl | rfl) <;> decide
  · intro h
    have : c = UInt8.ofNat c.toNat := by simp
    rcases (show c.toNat = 48 ∨ c.toNat = 49 ∨ c.toNat = 50 ∨ c.toNat = 51 ∨ c.toNat = 52 ∨ c.toNat = 53 ∨ c.toNat = 54 ∨ c.toNat = 55 ∨ c.toNat = 56 ∨ c.toNat = 57 by omega) with h | h | h | h | h | h | h | h | h | h <;> rw [h] at this <;> simp [this]
theorem trim_pre (s : Str) : Lib.trimRightS s [48, 49, 50, 51, 52, 53, 54, 55, 56, 57] = preS s := by
  unfold Lib.trimRightS preS
  congr 2
  funext c
  exact digits_dg c
theorem pre_split (s : Str) : preS s ++ lastS s = s := by
  have h : preS s <+: s := by
    unfold preS
    rw [← List.reverse_suffix, List.reverse_reverse]
    exact List.dropWhile_suffix _
  unfold lastS
  obtain ⟨t, ht⟩ := h
  conv => lhs; rw [← ht]
  rw [show preS (preS s ++ t) = preS s by rw [ht]]
  simp
  exact ht
theorem dropWhile_head {p : UInt8 → Bool} : ∀ (l : Str) (c : UInt8) (r : Str), l.dropWhile p = c :: r → p c = false
  | [], c, r, h => by simp at h
  | x :: l, c, r, h => by
    by_cases hx : p x = true
    · rw [List.dropWhile_cons_of_pos hx] at h
      exact dropWhile_head l c r h
    · rw [List.dropWhile_cons_of_neg hx] at h
      injection h with h _
      subst h
      simpa using hx
theorem pre_end (s p : Str) (c : UInt8) (h : preS s = p ++ [c]) : dg c = false := by
  unfold preS at h
  have := congrArg List.reverse h
  rw [List.reverse_reverse, List.reverse_append] at this
  exact dropWhile_head _ c _ this
theorem pre_app (p v : Str) (hv : Dgs v) (hp : ∀ q c, p = q ++ [c] → dg c = false) : preS (p ++ v) = p := by
  unfold preS
  rw [List.reverse_append, List.dropWhile_append_of_pos (fun x hx => hv x (by simpa using hx))]
  cases hr : p.reverse with
  | nil =>
    have : p = [] := by simpa using hr
    rw [this]
    rfl
  | cons c r =>
    have hpc : p = r.reverse ++ [c] := by
      have := congrArg List.reverse hr
      simpa using this
    rw [List.dropWhile_cons_of_neg (by rw [hp _ _ hpc]; simp)]
    rw [hpc]
    simp
theorem last_app (p v : Str) (hv : Dgs v) (hp : ∀ q c, p = q ++ [c] → dg c = false) : lastS (p ++ v) = v := by
  unfold lastS
  rw [pre_app p v hv hp]
  simp
theorem takeWhile_all {p : UInt8 → Bool} : ∀ (l : Str), ∀ x ∈ l.takeWhile p, p x = true
  | [], x, h => by simp at h
  | y :: l, x, h => by
    by_cases hy : p y = true
    · rw [List.takeWhile_cons_of_pos hy] at h
      rcases List.mem_cons.1 h with h | h
      · rw [h]; exact hy
      · exact takeWhile_all l x h
    · rw [List.takeWhile_cons_of_neg hy] at h
      simp at h
theorem last_dgs (s : Str) : Dgs (lastS s) := by
  have h1 : s = preS s ++ (s.reverse.takeWhile dg).reverse := by
    unfold preS
    rw [← List.reverse_append, List.takeWhile_append_dropWhile]
    simp
  have h2 : lastS s = (s.reverse.takeWhile dg).reverse := by
    have := pre_split s
    conv at this => rhs; rw [h1]
    exact List.append_cancel_left this
  rw [h2]
  intro c hc
  exact takeWhile_all _ c (by simpa using hc)
end Go.Proofs.YtigdcgklpapfbaaGreatDoor.S3

set_option linter.unusedVariables false
namespace Go.Proofs.YtigdcgklpapfbaaGreatDoor.S3
open Go Go.Proofs Go.RowKit Go.Lib

def orI (a b : Int) : Int := if a = 0 then b else a
set_option maxHeartbeats 2000000 in
theorem or_any (b c : Nat) (x y : Int) (w : World) (h0 : w.cell? ⟨b, 0, none⟩ = some (.int .i64 x)) (h1 : w.cell? ⟨b, 1, none⟩ = some (.int .i64 y)) :
    Calls Tryz.prog 153 #[.slice (some ⟨b, 0, none⟩) 2 c] w fun e w' => e = .returned (.int .i64 (orI x y)) ∧ w = w' := by
  obtain ⟨R, hR⟩ : ∃ R, orI x y = R := ⟨_, rfl⟩
  rw [hR]
  by_cases hx : x = 0
  · have hr : R = y := by rw [← hR]; exact if_pos hx
    have ex : ((x : Int) != 0) = false := by simp [hx]
    have HR := hid hr
    clear hR hr
    by_cases hy : y = 0
    · have ey : ((y : Int) != 0) = false := by simp [hy]
      have HY := hid hy
      subst hx
      clear ex hy
      go_enter Tryz.func153, Tryz.ntmps153
      go_wp2
      go_loop [5, 8] (fun _ i => ∃ k : Nat, (k = 0 ∨ k = 1 ∨ k = 2) ∧ i = .int .i64 (k : Int)) (fun _ i => 2 - (RowKit.intOf i).toNat)
      case atStart => exact ⟨0, .inl rfl, rfl⟩
      case round =>
        obtain ⟨k, hk, rfl⟩ := hrel
        rcases hk with rfl | rfl | rfl
        · go_wp2
          go_round
          case rel => exact ⟨1, .inr (.inl rfl), rfl⟩
          case measure => simp [RowKit.intOf]
        · go_wp2
          go_round
          case rel => exact ⟨2, .inr (.inr rfl), rfl⟩
          case measure => simp [RowKit.intOf]
        · go_wp2
          go_ret
          rw [HR.out, HY.out]
          exact ⟨rfl, rfl⟩
    · have ey : ((y : Int) != 0) = true := by simpa using hy
      subst hx
      clear ex
      go_enter Tryz.func153, Tryz.ntmps153
      go_wp2
      go_loop [5, 8] (fun _ i => ∃ k : Nat, (k = 0 ∨ k = 1) ∧ i = .int .i64 (k : Int)) (fun _ i => 2 - (RowKit.intOf i).toNat)
      case atStart => exact ⟨0, .inl rfl, rfl⟩
      case round =>
        obtain ⟨k, hk, rfl⟩ := hrel
        rcases hk with rfl | rfl
        · go_wp2
          go_round
          case rel => exact ⟨1, .inr rfl, rfl⟩
          case measure => simp [RowKit.intOf]
        · go_wp2
          go_ret
          rw [HR.out]
          exact ⟨rfl, rfl⟩
  · have hr : R = x := by rw [← hR]; exact if_neg hx
    have ex : ((x : Int) != 0) = true := by simpa using hx
    have HR := hid hr
    clear hR hr hx
    go_enter Tryz.func153, Tryz.ntmps153
    go_wp2
    go_loop [5, 8] (fun _ i => i = .int .i64 0) (fun _ i => 2 - (RowKit.intOf i).toNat)
    case atStart => rfl
    case round =>
      obtain rfl := hrel
      go_wp2
      go_ret
      rw [HR.out]
      exact ⟨rfl, rfl⟩

end Go.Proofs.YtigdcgklpapfbaaGreatDoor.S3

set_option linter.unusedVariables false
namespace Go.Proofs.YtigdcgklpapfbaaGreatDoor.S3
open Go Go.Proofs Go.RowKit Go.Lib

theorem str_no {s : ByteArray} (h : 0 < s.size) : (s.toList == []) = false ∧ (!s.toList.isEmpty) = true ∧ (s.toList != []) = true ∧ ¬ s.toList = [] := by
  have hne : s.toList ≠ [] := fun e => by
    rw [Lib.toList_data] at e
    rw [Lib.size_eq, e] at h
    simp at h
  refine ⟨by simpa using hne, by simpa using hne, by simpa using hne, hne⟩
theorem str_yes {s : ByteArray} (h : ¬ 0 < s.size) : (s.toList == []) = true ∧ (!s.toList.isEmpty) = false ∧ (s.toList != []) = false ∧ s.toList = [] := by
  have e : s.toList = [] := by
    rw [Lib.toList_data]
    exact List.eq_nil_of_length_eq_zero (by rw [← Lib.size_eq]; omega)
  refine ⟨by simpa using e, by simp [e], by simp [e], e⟩
theorem lst_ne {s : ByteArray} (h : 0 < s.size) : lst s ≠ [] := fun e => by
  have h' : 0 < (lst s).length := by rw [← Lib.size_eq]; exact h
  rw [e] at h'
  simp at h'
theorem lst_nil {s : ByteArray} (h : ¬ 0 < s.size) : lst s = [] := List.eq_nil_of_length_eq_zero (by rw [← Lib.size_eq]; omega)
end Go.Proofs.YtigdcgklpapfbaaGreatDoor.S3

set_option linter.unusedVariables false
namespace Go.Proofs.YtigdcgklpapfbaaGreatDoor.S3
open Go Go.Proofs Go.RowKit Go.Lib

/-- The library's variables. -/
structure Env (w : World) : Prop where
  m : ∃ m, w.cell? ⟨7, 0, none⟩ = some (.int .i64 m)
  ev : ∃ ev, w.cell? ⟨8, 0, none⟩ = some ev ∧ (ev = .nilIface ∨ ∃ te pe, ev = .iface te pe)
  tab : Lib.TabIs Tryz.prog w "internal/strconv.uint64pow10" .u64 Lib.pow10Tab
  size : 8 < w.heap.size
theorem gTab : Tryz.prog.globalNamed "internal/strconv.uint64pow10" = some 6 := by kernel_rfl
theorem var_below {B g : Nat} {W W' : World} {n : String} {cs : Array Value} (h : Below B W W') (hg : Tryz.prog.globalNamed n = some g) (hgB : g < B) (hv : W.var? Tryz.prog n = some cs) : W'.var? Tryz.prog n = some cs := by
  unfold World.var? at hv ⊢
  simp only [hg, Option.bind_some] at hv ⊢
  rw [h.block g hgB]
  exact hv
theorem Env.below {w w' : World} (h : Env w) (hb : Below w.heap.size w w') : Env w' := by
  obtain ⟨m, hm⟩ := h.m
  obtain ⟨ev, he, hk⟩ := h.ev
  have hs := h.size
  exact ⟨⟨m, (hb.cell (p := ⟨7, 0, none⟩) (by show 7 < w.heap.size; omega)).trans hm⟩, ⟨ev, (hb.cell (p := ⟨8, 0, none⟩) (by show 8 < w.heap.size; omega)).trans he, hk⟩,
    var_below hb gTab (by omega) h.tab, Nat.le_trans hs hb.size⟩

theorem trimR_any (s : ByteArray) (hs : s.size ≤ 9223372036854775807) (w : World) :
    Calls Tryz.prog 227 #[.string s, .string ⟨#[48, 49, 50, 51, 52, 53, 54, 55, 56, 57]⟩] w fun e w' => e = .returned (.string ⟨(preS (lst s)).toArray⟩) ∧ Below w.heap.size w w' := by
  have h := Any.strings_TrimRight_laid Tryz.lays162 (by kernel_rfl) s ⟨#[48, 49, 50, 51, 52, 53, 54, 55, 56, 57]⟩ w hs (by decide) (fun j b hb => by
    have := List.mem_of_getElem? hb
    simp at this
    rcases this with rfl | rfl | rfl | rfl | rfl | rfl | rfl | rfl | rfl | rfl <;> decide)
  rw [show (⟨#[48, 49, 50, 51, 52, 53, 54, 55, 56, 57]⟩ : ByteArray).data.toList = [48, 49, 50, 51, 52, 53, 54, 55, 56, 57] from rfl, trim_pre] at h
  exact h

theorem results_ct {fn : Func} {p u : Tmp} {A : TypeId} (h : fn.results = #[.cell p A, .tmp u]) (tmps : Array Value) (P : Program) (w : World) (a : Addr) (va vc : Value)
    (ha : tmps.getD p undef = .pointer (some a)) (hc : tmps.getD u undef = vc)
    (hla : (loadVar A a).run P w = .ok va w) : (results fn tmps).run P w = .ok (.tuple #[va, vc]) w := by
  rw [Array.getD_eq_getD_getElem?] at ha hc
  simp only [results, h]
  simp [Result.andThen, ha, hc, hla, asAddr]
theorem loadNumb {w : World} {k : Nat} {x y z : Value} (h0 : w.cell? ⟨k, 0, none⟩ = some x) (h1 : w.cell? ⟨k, 1, none⟩ = some y) (h2 : w.cell? ⟨k, 2, none⟩ = some z) : (loadVar 213 ⟨k, 0, none⟩).run Tryz.prog w = .ok (.agg #[x, y, z]) w := by
  simp [loadVar, go_sem, h0, h1, h2]
theorem lst_from (s : ByteArray) (P : ByteArray) (hP : lst P = preS (lst s)) : lst (s.extract P.size s.size) = lastS (lst s) := by
  rw [lst_extract, List.take_of_length_le (by rw [← Lib.size_eq]; exact Nat.le_refl _)]
  unfold lastS
  rw [← hP, show P.size = (lst P).length from Lib.size_eq P]
/-- The last number, 0 if there is none. -/
def numL (s : Str) : Nat := numN (lastS s)
def divV (P : ByteArray) (s : Str) : Value := .agg #[.string P, .int .i64 (numL s : Int), .int .i64 ((lastS s).length : Int)]
def hasL (s : Str) : Bool := !(lastS s).isEmpty
/-- What divide hands back. -/
def DivOut (s : Str) (w : World) (e : Ending) (w' : World) : Prop := (∃ P : ByteArray, e = .returned (.tuple #[divV P s, .bool (hasL s)]) ∧ lst P = preS s) ∧ Below w.heap.size w w'

theorem three_set {w : World} {k : Nat} {a b c : Value} {T : TypeId} (h : w.heap[k]? = some (.cells #[a, b, c] T (0, 0))) (x y z : Value) :
    (((w.setCell ⟨k, 0, none⟩ x).setCell ⟨k, 1, none⟩ y).setCell ⟨k, 2, none⟩ z).heap[k]? = some (.cells #[x, y, z] T (0, 0)) := by
  have h1 := heap_setCell_same w k 0 _ _ x h
  have h2 := heap_setCell_same _ k 1 _ _ y h1
  have h3 := heap_setCell_same _ k 2 _ _ z h2
  rw [h3]
  rfl
theorem div_end {s : Str} {w W : World} {P : ByteArray} {a : Act} {ok : Bool} {n wd : Int} (ha : a.tmps.getD 2 undef = .pointer (some ⟨w.heap.size, 0, none⟩)) (hc : a.tmps.getD 3 undef = .bool ok) (hd : a.defers = [])
    (hz : W.heap[w.heap.size]? = some (.cells #[.string P, .int .i64 n, .int .i64 wd] 213 (0, 0))) (hv : divV P s = .agg #[.string P, .int .i64 n, .int .i64 wd]) (hb : hasL s = ok) (hP : lst P = preS s) (hB : Below w.heap.size w W) :
    bodyPost Tryz.prog Tryz.f179 (DivOut s w) Exit.ret a W := by
  refine bodyPost_ret (v := .tuple #[divV P s, .bool (hasL s)]) (results_ct rfl _ _ _ ⟨w.heap.size, 0, none⟩ _ _ ha (by rw [hb]; exact hc) ?_) hd ⟨⟨P, rfl, hP⟩, hB⟩
  rw [hv]
  exact loadNumb (by rw [Lib.cell_of_heap hz]; rfl) (by rw [Lib.cell_of_heap hz]; rfl) (by rw [Lib.cell_of_heap hz]; rfl)

set_option maxHeartbeats 4000000 in
set_option maxRecDepth 100000 in
theorem divide_any (s : ByteArray) (hs : s.size ≤ 16) (w : World) (hE : Env w) : Calls Tryz.prog 179 #[.string s] w (DivOut (lst s) w) := by
  have hsl : (lst s).length ≤ 16 := by rw [← Lib.size_eq]; exact hs
  obtain ⟨P, hP0⟩ : ∃ P : ByteArray, (⟨(preS (lst s)).toArray⟩ : ByteArray) = P := ⟨_, rfl⟩
  have hP : lst P = preS (lst s) := by rw [← hP0]
  have cT := trimR_any s (by omega)
  rw [hP0] at cT
  have hsp := pre_split (lst s)
  have hpl : (preS (lst s)).length ≤ (lst s).length := by
    have := congrArg List.length hsp
    rw [List.length_append] at this
    omega
  have hPs : P.size ≤ s.size := by rw [show P.size = (lst P).length from Lib.size_eq P, hP, show s.size = (lst s).length from Lib.size_eq s]; exact hpl
  have hX := lst_from s P hP
  obtain ⟨X, hXd⟩ : ∃ X, s.extract P.size s.size = X := ⟨_, rfl⟩
  rw [hXd] at hX
  have hXs : X.size ≤ 16 := by rw [← hXd, ByteArray.size_extract]; omega
  have hXl : X.size = (lastS (lst s)).length := by rw [← hX]; exact Lib.size_eq X
  have hPz : (P.size : Int) ≤ (s.size : Int) := by omega
  have hdg := last_dgs (lst s)
  have HP := hid hP
  have HX := hid hX
  have HXL := hid hXl
  have HE := hid hE
  have hsub : ∀ w : World, Below w.heap.size w (w.alloc (.cells #[.string ⟨#[]⟩, .int .i64 0, .int .i64 0] 213)) := fun w => (Below.refl _ w).alloc (Nat.le_refl _) _
  have HS := hid hsub
  clear hP0 hP hsp hpl hX hXl hE hsub hsl
  by_cases h0 : lastS (lst s) = []
  · have hn : Hid (divV P (lst s) = .agg #[.string P, .int .i64 0, .int .i64 (X.size : Int)]) := hid (by unfold divV numL; rw [HXL.out, h0]; rfl)
    have hb : Hid (hasL (lst s) = false) := hid (by unfold hasL; rw [h0]; rfl)
    have ha : Lib.atoi (lst X) = none := by rw [HX.out, h0]; rfl
    obtain ⟨ev, hev, hev2⟩ := HE.out.ev
    have HEV := hid hev
    have hsz := HE.out.size
    clear h0 hdg hev
    go_enter Tryz.func179, Tryz.ntmps179
    go_wp2_with fail
    have HB0 := HS.out w
    have hz0 : (w.alloc (.cells #[.string ⟨#[]⟩, .int .i64 0, .int .i64 0] 213)).heap[w.heap.size]? = some (.cells #[.string ⟨#[]⟩, .int .i64 0, .int .i64 0] 213 (0, 0)) := heap_alloc_new w _
    have hzs : w.heap.size < (w.alloc (.cells #[.string ⟨#[]⟩, .int .i64 0, .int .i64 0] 213)).heap.size := by simp
    have HB0' := hid HB0
    have HZ0 := hid hz0
    clear HB0 hz0
    generalize w.alloc (.cells #[.string ⟨#[]⟩, .int .i64 0, .int .i64 0] 213) = w1 at HB0' HZ0 hzs ⊢
    refine (cT _).mono ?_
    rintro e w2 ⟨rfl, hb2⟩
    have HZ2 := hid ((hb2.block _ hzs).trans HZ0.out)
    have HB2 := hid (HB0'.out.trans (hb2.mono HB0'.out.size))
    have hzs2 : w.heap.size < w2.heap.size := Nat.lt_of_lt_of_le hzs hb2.size
    clear hb2 HZ0 HB0'
    go_wp2_with fail
    have cA := Tryz.strconv_Atoi_err X (by omega) ha ev w2 ((HB2.out.cell (p := ⟨8, 0, none⟩) (by show 8 < w.heap.size; omega)).trans HEV.out) hev2
    have CA := hid cA
    clear cA ha cT
    refine CA.out.mono ?_
    rintro e w3 ⟨N, rfl, _, _, hb3⟩
    have hz3 := (hb3.block _ hzs2).trans HZ2.out
    have HB3 := hid (HB2.out.trans (hb3.mono HB2.out.size))
    have z0 : w3.cell? ⟨w.heap.size, 0, none⟩ = some (.string ⟨#[]⟩) := by rw [Lib.cell_of_heap hz3]; rfl
    have z1 : w3.cell? ⟨w.heap.size, 1, none⟩ = some (.int .i64 0) := by rw [Lib.cell_of_heap hz3]; rfl
    have z2 : w3.cell? ⟨w.heap.size, 2, none⟩ = some (.int .i64 0) := by rw [Lib.cell_of_heap hz3]; rfl
    have f : ∀ j, w3.frozen? ⟨w.heap.size, j, none⟩ = false := fun j => by simp [World.frozen?, hz3]
    have f0 := f 0
    have f1 := f 1
    have f2 := f 2
    have HZ3 := hid hz3
    clear f hz3 hb3 HZ2 CA
    go_wp2
    go_region
    all_goals
      go_wp2
      exact div_end rfl rfl rfl (three_set HZ3.out _ _ _) hn.out hb.out HP.out ((((HB3.out.setCell (p := ⟨w.heap.size, 0, none⟩) (Nat.le_refl _) _).setCell (p := ⟨w.heap.size, 1, none⟩) (Nat.le_refl _) _).setCell (p := ⟨w.heap.size, 2, none⟩) (Nat.le_refl _) _)).drew
  · obtain ⟨n, hnn⟩ : ∃ n, numL (lst s) = n := ⟨_, rfl⟩
    have hn : Hid (divV P (lst s) = .agg #[.string P, .int .i64 (n : Int), .int .i64 (X.size : Int)]) := hid (by unfold divV; rw [HXL.out, hnn])
    have hb : Hid (hasL (lst s) = true) := hid (by unfold hasL; simpa using h0)
    have ha : Lib.atoi (lst X) = some (n : Int) := by rw [HX.out, ← hnn]; exact atoi_num _ h0 hdg
    clear h0 hdg hnn
    go_enter Tryz.func179, Tryz.ntmps179
    go_wp2_with fail
    have HB0 := HS.out w
    have hz0 : (w.alloc (.cells #[.string ⟨#[]⟩, .int .i64 0, .int .i64 0] 213)).heap[w.heap.size]? = some (.cells #[.string ⟨#[]⟩, .int .i64 0, .int .i64 0] 213 (0, 0)) := heap_alloc_new w _
    have hzs : w.heap.size < (w.alloc (.cells #[.string ⟨#[]⟩, .int .i64 0, .int .i64 0] 213)).heap.size := by simp
    have HB0' := hid HB0
    have HZ0 := hid hz0
    clear HB0 hz0
    generalize w.alloc (.cells #[.string ⟨#[]⟩, .int .i64 0, .int .i64 0] 213) = w1 at HB0' HZ0 hzs ⊢
    refine (cT _).mono ?_
    rintro e w2 ⟨rfl, hb2⟩
    have HZ2 := hid ((hb2.block _ hzs).trans HZ0.out)
    have HB2 := hid (HB0'.out.trans (hb2.mono HB0'.out.size))
    have hzs2 : w.heap.size < w2.heap.size := Nat.lt_of_lt_of_le hzs hb2.size
    clear hb2 HZ0 HB0'
    go_wp2_with fail
    have cA := Tryz.strconv_Atoi X n (by omega) ha w2
    have CA := hid cA
    clear cA ha cT
    refine CA.out.mono ?_
    rintro e w3 ⟨rfl, t, hw3⟩
    have hb3 : Below w2.heap.size w2 w3 := by rw [hw3]; exact Lib.bytesWorld_below _ _ _
    clear hw3
    have hz3 := (hb3.block _ hzs2).trans HZ2.out
    have HB3 := hid (HB2.out.trans (hb3.mono HB2.out.size))
    have z0 : w3.cell? ⟨w.heap.size, 0, none⟩ = some (.string ⟨#[]⟩) := by rw [Lib.cell_of_heap hz3]; rfl
    have z1 : w3.cell? ⟨w.heap.size, 1, none⟩ = some (.int .i64 0) := by rw [Lib.cell_of_heap hz3]; rfl
    have z2 : w3.cell? ⟨w.heap.size, 2, none⟩ = some (.int .i64 0) := by rw [Lib.cell_of_heap hz3]; rfl
    have f : ∀ j, w3.frozen? ⟨w.heap.size, j, none⟩ = false := fun j => by simp [World.frozen?, hz3]
    have f0 := f 0
    have f1 := f 1
    have f2 := f 2
    have HZ3 := hid hz3
    clear f hz3 hb3 HZ2 CA
    go_wp2
    go_region
    all_goals
      go_wp2
      exact div_end rfl rfl rfl (three_set HZ3.out _ _ _) hn.out hb.out HP.out ((((HB3.out.setCell (p := ⟨w.heap.size, 0, none⟩) (Nat.le_refl _) _).setCell (p := ⟨w.heap.size, 1, none⟩) (Nat.le_refl _) _).setCell (p := ⟨w.heap.size, 2, none⟩) (Nat.le_refl _) _)).drew
end Go.Proofs.YtigdcgklpapfbaaGreatDoor.S3

set_option linter.unusedVariables false
namespace Go.Proofs.YtigdcgklpapfbaaGreatDoor.S3
open Go Go.Proofs Go.RowKit Go.Lib Go.Sort

theorem grow_below (w : World) (k : Nat) (os : Array Obj) : Below w.heap.size w (grow (w.drewN k) os) := by
  have h := below_drewN (Below.refl w.heap.size w) k
  refine ⟨h.os, h.tape, h.output, ?_, fun b hb => ?_⟩
  · show w.heap.size ≤ ((w.drewN k).heap ++ os).size
    have := h.size
    rw [Array.size_append]
    omega
  · show ((w.drewN k).heap ++ os)[b]? = _
    have := h.size
    rw [Array.getElem?_append_left (by omega)]
    exact h.block b hb
theorem repeat_zeros : ∀ k : Nat, Lib.repeatL [48] k = zerosS k := by
  intro k
  induction k with
  | zero => rfl
  | succ k ih => simp [Lib.repeatL, zerosS, List.replicate_succ] at ih ⊢; try exact ih
theorem lst_add (a b : ByteArray) : lst (a ++ b) = lst a ++ lst b := by simp [lst]

/-- What after hands back. -/
def StrOut (l : Str) (w : World) (e : Ending) (w' : World) : Prop := (∃ R : ByteArray, e = .returned (.string R) ∧ lst R = l) ∧ Below w.heap.size w w'
set_option maxHeartbeats 4000000 in
set_option maxRecDepth 100000 in
theorem after_any (P : ByteArray) (num wd n : Nat) (hP : P.size ≤ 16) (hn : num + n ≤ 1000000000000000000) (hw : wd ≤ 16) (w : World) (hE : Env w) :
    Calls Tryz.prog 180 #[.agg #[.string P, .int .i64 (num : Int), .int .i64 (wd : Int)], .int .i64 (n : Int)] w (StrOut (lst P ++ wrS (num + n) wd) w) := by
  have e1 : IntKind.i64.wrap ((num : Int) + (n : Int)) = ((num + n : Nat) : Int) := by rw [IntWalk.i64_in _ (by omega)]; omega
  have hlen := dec_len (num + n) 19 (by have : (10 : Nat) ^ 19 = 10000000000000000000 := by decide
                                        omega) (by omega)
  have cI := Tryz.strconv_Itoa ((num + n : Nat) : Int) (by omega) (by omega)
  obtain ⟨N, hN⟩ : ∃ N : ByteArray, (⟨(Lib.itoa ((num + n : Nat) : Int)).toArray⟩ : ByteArray) = N := ⟨_, rfl⟩
  have hNl : lst N = decDigits (num + n) := by
    rw [← hN]
    show Lib.itoa ((num + n : Nat) : Int) = _
    unfold Lib.itoa
    rw [if_neg (by omega), Int.toNat_natCast]
  rw [hN] at cI
  have hNs : N.size = (decDigits (num + n)).length := by rw [← hNl]; exact Lib.size_eq N
  have HN := hid hNl
  have HNS := hid hNs
  have hNs2 : N.size ≤ 19 := by omega
  have CI := hid cI
  have HE := hid hE
  obtain ⟨M, hM⟩ : ∃ M, num + n = M := ⟨_, rfl⟩
  rw [hM] at e1 CI HN HNS ⊢
  clear hN hNl hNs cI hE hlen
  go_enter Tryz.func180, Tryz.ntmps180
  have hba : Below w.heap.size w (w.alloc (.cells #[.string P, .int .i64 (num : Int), .int .i64 (wd : Int)] 213)) := (Below.refl _ w).alloc (Nat.le_refl _) _
  have hz0 : (w.alloc (.cells #[.string P, .int .i64 (num : Int), .int .i64 (wd : Int)] 213)).heap[w.heap.size]? = some (.cells #[.string P, .int .i64 (num : Int), .int .i64 (wd : Int)] 213 (0, 0)) := heap_alloc_new w _
  have hzs : w.heap.size < (w.alloc (.cells #[.string P, .int .i64 (num : Int), .int .i64 (wd : Int)] 213)).heap.size := by simp
  have HBA := hid hba
  have HZ0 := hid hz0
  clear hba hz0
  go_wp2_with fail
  generalize w.alloc (.cells #[.string P, .int .i64 (num : Int), .int .i64 (wd : Int)] 213) = w1 at HBA HZ0 hzs ⊢
  refine (CI.out _ ((HE.out.below HBA.out).tab)).mono ?_
  rintro e w2 ⟨rfl, k, os, hw2⟩
  have hb2 : Below w1.heap.size w1 w2 := by rw [hw2]; exact grow_below _ _ _
  have hz2 := (hb2.block _ hzs).trans HZ0.out
  have HB2 := hid (HBA.out.trans (hb2.mono HBA.out.size))
  have c0 : w2.cell? ⟨w.heap.size, 0, none⟩ = some (.string P) := by rw [Lib.cell_of_heap hz2]; rfl
  have c1 : w2.cell? ⟨w.heap.size, 1, none⟩ = some (.int .i64 (num : Int)) := by rw [Lib.cell_of_heap hz2]; rfl
  have c2 : w2.cell? ⟨w.heap.size, 2, none⟩ = some (.int .i64 (wd : Int)) := by rw [Lib.cell_of_heap hz2]; rfl
  have hzs2 : w.heap.size < w2.heap.size := Nat.lt_of_lt_of_le hzs hb2.size
  have HZ2 := hid hz2
  obtain ⟨z, hz, hz16⟩ : ∃ z : Nat, z = wd - N.size ∧ z ≤ 16 := ⟨_, rfl, by omega⟩
  have hmax : max 0 ((wd : Int) - (N.size : Int)) = (z : Int) := by omega
  have HZ := hid hz
  clear hw2 hb2 hz2 hz HBA HZ0 CI HE hzs
  obtain ⟨Z, hZ⟩ : ∃ Z : ByteArray, (⟨(Lib.repeatL (⟨#[48]⟩ : ByteArray).data.toList z).toArray⟩ : ByteArray) = Z := ⟨_, rfl⟩
  have hZl : lst Z = zerosS z := by rw [← hZ]; exact repeat_zeros z
  have hZs : Z.size = z := by rw [show Z.size = (lst Z).length from Lib.size_eq Z, hZl]; simp [zerosS]
  have cR := fun w => Tryz.strings_Repeat ⟨#[48]⟩ z w (by omega) (by rw [show (⟨#[48]⟩ : ByteArray).size = 1 from rfl]; omega)
  rw [hZ] at cR
  have add1 : ∀ w, (Op.stringOp .add P Z).run Tryz.prog w = .ok (.string (P ++ Z)) w := fun w => run_string_add_sum (w := w) _ _ (by omega)
  have add2 : ∀ w, (Op.stringOp .add (P ++ Z) N).run Tryz.prog w = .ok (.string (P ++ Z ++ N)) w := fun w => run_string_add_sum (w := w) _ _ (by rw [ByteArray.size_append]; omega)
  have hfin : Hid (lst (P ++ Z ++ N) = lst P ++ wrS M wd) := hid (by
    rw [lst_add, lst_add, hZl, HN.out, List.append_assoc]
    unfold wrS
    rw [← HNS.out, HZ.out])
  clear hZ hZl hZs c1
  go_wp2_with fail
  try rw [hmax]
  clear hmax c2 hz16 hNs2
  go_region_held3 (fun w' => w'.cell? ⟨w.heap.size, 0, none⟩ = some (.string P)) (go_keep) (first | (go_at_call 228; refine (cR _).mono ?_; rintro e w' ⟨rfl, hb'⟩; have c0' := (hb'.cell (p := ⟨w.heap.size, 0, none⟩) hzs2).trans c0; have HB' := hid hb'))
  all_goals
    go_wp2
    go_ret
    exact ⟨⟨_, rfl, hfin.out⟩, HB2.out.trans (((Below.refl w.heap.size w2).drew).trans (HB'.out.mono HB2.out.size))⟩
end Go.Proofs.YtigdcgklpapfbaaGreatDoor.S3

set_option linter.unusedVariables false
namespace Go.Proofs.YtigdcgklpapfbaaGreatDoor.S3
open Go Go.Proofs Go.RowKit Go.Lib

/-- How many codes a range has, 0 if it is none. -/
def rangeN (a b : Str) : Nat := if hasL a = true ∧ hasL b = true ∧ numL a ≤ numL b ∧ preS a ++ wrS (numL b) (lastS a).length = b then numL b - numL a + 1 else 0
theorem len16 {s : ByteArray} (h : s.size ≤ 16) : (lst s).length ≤ 16 := by rw [← Lib.size_eq]; exact h
theorem last_len (l : Str) (h : l.length ≤ 16) : (lastS l).length ≤ 16 ∧ (preS l).length ≤ 16 := by
  have := congrArg List.length (pre_split l)
  rw [List.length_append] at this
  omega
theorem numL_small (l : Str) (h : l.length ≤ 16) : numL l < 10000000000000000 := numN_small _ (last_dgs l) (last_len l h).1
theorem str_eq {a b : ByteArray} : (lst a = lst b ∧ (a.toList == b.toList) = true ∧ (!a.toList == b.toList) = false) ∨ (lst a ≠ lst b ∧ (a.toList == b.toList) = false ∧ (!a.toList == b.toList) = true) := by
  rw [Lib.toList_data, Lib.toList_data]
  by_cases h : lst a = lst b
  · have h' : (a.data.toList == b.data.toList) = true := by simpa using h
    exact .inl ⟨h, h', by rw [h']; rfl⟩
  · have h' : (a.data.toList == b.data.toList) = false := by simpa using h
    exact .inr ⟨h, h', by rw [h']; rfl⟩

set_option maxHeartbeats 4000000 in
set_option maxRecDepth 100000 in
theorem rangeLength_any (a b : ByteArray) (ha : a.size ≤ 16) (hb : b.size ≤ 16) (w : World) (hE : Env w) :
    Calls Tryz.prog 192 #[.string a, .string b] w fun e w' => e = .returned (.int .i64 (rangeN (lst a) (lst b) : Nat)) ∧ Below w.heap.size w w' := by
  obtain ⟨R, hR⟩ : ∃ R, rangeN (lst a) (lst b) = R := ⟨_, rfl⟩
  rw [hR]
  have na := numL_small (lst a) (len16 ha)
  have nb := numL_small (lst b) (len16 hb)
  have la := last_len (lst a) (len16 ha)
  have cA := divide_any a ha w hE
  have HR := hid hR
  have HE := hid hE
  have CA := hid cA
  clear hR hE cA
  go_enter Tryz.func192, Tryz.ntmps192
  go_wp2_with fail
  refine CA.out.mono ?_
  rintro e w1 ⟨⟨PA, rfl, hPA⟩, hb1⟩
  unfold divV
  have hPAs : PA.size ≤ 16 := by rw [Lib.size_eq, show PA.data.toList = _ from hPA]; exact la.2
  have HE1 := HE.out.below hb1
  obtain ⟨nA, hnA⟩ : ∃ n, numL (lst a) = n := ⟨_, rfl⟩
  obtain ⟨nB, hnB⟩ : ∃ n, numL (lst b) = n := ⟨_, rfl⟩
  obtain ⟨wA, hwA⟩ : ∃ n, (lastS (lst a)).length = n := ⟨_, rfl⟩
  have hwA16 : wA ≤ 16 := by rw [← hwA]; exact la.1
  rw [hnA] at na
  rw [hnB] at nb
  have hdef : Hid (R = if hasL (lst a) = true ∧ hasL (lst b) = true ∧ nA ≤ nB ∧ lst PA ++ wrS nB wA = lst b then nB - nA + 1 else 0) := hid (by rw [← HR.out]; unfold rangeN; rw [hnA, hnB, hwA, hPA])
  rw [hnA, hwA]
  have HNB := hid hnB
  have hz1 : (w1.alloc (.cells #[.string PA, .int .i64 (nA : Int), .int .i64 (wA : Int)] 213)).heap[w1.heap.size]? = some (.cells #[.string PA, .int .i64 (nA : Int), .int .i64 (wA : Int)] 213 (0, 0)) := heap_alloc_new w1 _
  have hba : Below w1.heap.size w1 (w1.alloc (.cells #[.string PA, .int .i64 (nA : Int), .int .i64 (wA : Int)] 213)) := (Below.refl _ w1).alloc (Nat.le_refl _) _
  have hsa : w1.heap.size < (w1.alloc (.cells #[.string PA, .int .i64 (nA : Int), .int .i64 (wA : Int)] 213)).heap.size := by simp
  have HZ1 := hid hz1
  have HB1 := hid (hb1.trans (hba.mono hb1.size))
  have HEa := hid (HE1.below hba)
  clear hz1 hba hb1 HE1 hnA hnB hwA hPA CA HR HE la
  go_wp2_with fail
  generalize w1.alloc (.cells #[.string PA, .int .i64 (nA : Int), .int .i64 (wA : Int)] 213) = w2 at HZ1 HB1 HEa hsa ⊢
  refine (divide_any b hb _ HEa.out).mono ?_
  rintro e w3 ⟨⟨PB, rfl, _⟩, hb3⟩
  unfold divV
  rw [HNB.out]
  obtain ⟨wB, hwB⟩ : ∃ n, (lastS (lst b)).length = n := ⟨_, rfl⟩
  rw [hwB]
  clear hwB
  have hz3 := (hb3.block _ hsa).trans HZ1.out
  have HB3 := hid (HB1.out.trans (hb3.mono HB1.out.size))
  have HE3 := HEa.out.below hb3
  have hs3 : w1.heap.size < w3.heap.size := Nat.lt_of_lt_of_le hsa hb3.size
  have hza : (w3.alloc (.cells #[.string PB, .int .i64 (nB : Int), .int .i64 (wB : Int)] 213)).heap[w1.heap.size]? = some (.cells #[.string PA, .int .i64 (nA : Int), .int .i64 (wA : Int)] 213 (0, 0)) := (Below.heap_alloc w3 _ _ hs3).trans hz3
  have hzb : (w3.alloc (.cells #[.string PB, .int .i64 (nB : Int), .int .i64 (wB : Int)] 213)).heap[w3.heap.size]? = some (.cells #[.string PB, .int .i64 (nB : Int), .int .i64 (wB : Int)] 213 (0, 0)) := heap_alloc_new w3 _
  have hba : Below w3.heap.size w3 (w3.alloc (.cells #[.string PB, .int .i64 (nB : Int), .int .i64 (wB : Int)] 213)) := (Below.refl _ w3).alloc (Nat.le_refl _) _
  have HB4 := hid (HB3.out.trans (hba.mono HB3.out.size))
  have HE4 := hid (HE3.below hba)
  clear hz3 hb3 HE3 hba HB1 HB3 HEa HNB HZ1
  obtain ⟨oa, hoa⟩ : ∃ o, hasL (lst a) = o := ⟨_, rfl⟩
  obtain ⟨ob, hob⟩ : ∃ o, hasL (lst b) = o := ⟨_, rfl⟩
  rw [hoa, hob] at hdef
  rw [hoa, hob]
  clear hoa hob
  have a1 : (w3.alloc (.cells #[.string PB, .int .i64 (nB : Int), .int .i64 (wB : Int)] 213)).cell? ⟨w1.heap.size, 1, none⟩ = some (.int .i64 (nA : Int)) := by rw [Lib.cell_of_heap hza]; rfl
  have b1 : (w3.alloc (.cells #[.string PB, .int .i64 (nB : Int), .int .i64 (wB : Int)] 213)).cell? ⟨w3.heap.size, 1, none⟩ = some (.int .i64 (nB : Int)) := by rw [Lib.cell_of_heap hzb]; rfl
  have a0 : (w3.alloc (.cells #[.string PB, .int .i64 (nB : Int), .int .i64 (wB : Int)] 213)).cell? ⟨w1.heap.size, 0, none⟩ = some (.string PA) := by rw [Lib.cell_of_heap hza]; rfl
  have a2 : (w3.alloc (.cells #[.string PB, .int .i64 (nB : Int), .int .i64 (wB : Int)] 213)).cell? ⟨w1.heap.size, 2, none⟩ = some (.int .i64 (wA : Int)) := by rw [Lib.cell_of_heap hza]; rfl
  clear hza hzb
  cases oa with
  | false =>
    have hR0 : Hid (R = 0) := hid (by rw [hdef.out, if_neg (by simp)])
    have eN : IntKind.i64.wrap ((nB : Int) - (nA : Int)) = (nB : Int) - (nA : Int) := IntWalk.i64_in _ (by omega)
    go_wp2
    go_ret
    rw [hR0.out]
    exact ⟨rfl, HB4.out⟩
  | true =>
    cases ob with
    | false =>
      have hR0 : Hid (R = 0) := hid (by rw [hdef.out, if_neg (by simp)])
      have eN : IntKind.i64.wrap ((nB : Int) - (nA : Int)) = (nB : Int) - (nA : Int) := IntWalk.i64_in _ (by omega)
      go_wp2
      go_ret
      rw [hR0.out]
      exact ⟨rfl, HB4.out⟩
    | true =>
      by_cases hle : nA ≤ nB
      · obtain ⟨d, hd⟩ : ∃ d, nB = nA + d := ⟨nB - nA, by omega⟩
        have eN : IntKind.i64.wrap ((nB : Int) - (nA : Int)) = (d : Int) := by rw [IntWalk.i64_in _ (by omega)]; omega
        have eN2 : (nB : Int) - (nA : Int) = (d : Int) := by omega
        have hdn : nA + d ≤ 1000000000000000000 := by omega
        have hd0 : ¬ (d : Int) < 0 := by omega
        have hd1 : decide ((d : Int) < 0) = false := decide_eq_false hd0
        have eD : IntKind.i64.wrap ((d : Int) + 1) = (d : Int) + 1 := IntWalk.i64_in _ (by omega)
        have HD := hid hd
        clear hle hd
        go_wp2_with fail
        refine (after_any PA nA wA d hPAs hdn hwA16 _ HE4.out).mono ?_
        rintro e w5 ⟨⟨X, rfl, hX⟩, hb5⟩
        have HX := hid hX
        have HB5 := hid (HB4.out.trans (hb5.mono HB4.out.size))
        rcases @str_eq X b with ⟨h1, h2, h3⟩ | ⟨h1, h2, h3⟩
        · have hR1 : Hid (R = d + 1) := hid (by rw [hdef.out, if_pos ⟨by trivial, by trivial, by have := HD.out; omega, by rw [HD.out, ← HX.out]; exact h1⟩]; have := HD.out; omega)
          clear h1 hX hb5 hdef
          go_wp2
          go_ret
          rw [hR1.out]
          exact ⟨by go_num, HB5.out⟩
        · have hR0 : Hid (R = 0) := hid (by rw [hdef.out, if_neg (fun h => h1 (by rw [HX.out, ← HD.out]; exact h.2.2.2))])
          clear h1 hX hb5 hdef
          go_wp2
          go_ret
          rw [hR0.out]
          exact ⟨rfl, HB5.out⟩
      · have hR0 : Hid (R = 0) := hid (by rw [hdef.out, if_neg (fun h => hle h.2.2.1)])
        have eN : IntKind.i64.wrap ((nB : Int) - (nA : Int)) = (nB : Int) - (nA : Int) := IntWalk.i64_in _ (by omega)
        have hz : (nB : Int) - (nA : Int) < 0 := by omega
        have hz' : decide ((nB : Int) - (nA : Int) < 0) = true := decide_eq_true hz
        have hz2 : (nB : Int) < (nA : Int) := by omega
        clear hle
        go_wp2
        go_ret
        rw [hR0.out]
        exact ⟨rfl, HB4.out⟩
end Go.Proofs.YtigdcgklpapfbaaGreatDoor.S3
