/-
  Natural order of strings as a function, and that it is a total order: plain mathematics. No program, no conditions. Numbers with a width, and a code's last .. Conditions: as stated.
-/
import Derived.Lib.Bytealg
import Derived.Lib.ItoaNum
import Derived.Lib.Atoi
import Derived.Lib.SlTrimSet
import Derived.Test.YtlgmanbilaminaaGreatDoorProg
import Derived.WalkSpells
import Derived.WalkLawsBesides
import Derived.Lib.Hide
import Derived.BigQuiet
import Derived.Lib.BufferWrite
set_option linter.unusedVariables false
namespace Go.Proofs.YtlgmanbilaminaaGreatDoor.S3
open Go Go.Lib
abbrev Str := List UInt8
structure Tot {α : Type} (c : α → α → Int) : Prop where
  rng : ∀ a b, c a b = -1 ∨ c a b = 0 ∨ c a b = 1
  swap : ∀ a b, c b a = - c a b
  trans : ∀ a b d, c a b ≤ 0 → c b d ≤ 0 → c a d ≤ 0
theorem Tot.self {α : Type} {c : α → α → Int} (h : Tot c) (a : α) : c a a = 0 := by
  have := h.swap a a
  omega
theorem Tot.zero_left {α : Type} {c : α → α → Int} (h : Tot c) {a b : α} (d : α) (e : c a b = 0) : c a d = c b d := by
  have e' := h.swap a b
  have r1 := h.rng a d
  have r2 := h.rng b d
  have s1 := h.swap a d
  have s2 := h.swap b d
  have t1 := h.trans a b d (by omega)
  have t2 := h.trans b a d (by omega)
  have t3 := fun x => h.trans d a b x (by omega)
  have t4 := fun x => h.trans d b a x (by omega)
  rcases r1 with r1 | r1 | r1 <;> rcases r2 with r2 | r2 | r2 <;> first | omega | (have := t1 (by omega); omega) | (have := t2 (by omega); omega) | (have := t3 (by omega); omega) | (have := t4 (by omega); omega)
def orC {α : Type} (c1 c2 : α → α → Int) (a b : α) : Int := if c1 a b = 0 then c2 a b else c1 a b
theorem Tot.or {α : Type} {c1 c2 : α → α → Int} (h1 : Tot c1) (h2 : Tot c2) : Tot (orC c1 c2) := by
  refine ⟨fun a b => ?_, fun a b => ?_, fun a b d => ?_⟩
  · unfold orC
    split
    · exact h2.rng a b
    · exact h1.rng a b
  · unfold orC
    have := h1.swap a b
    by_cases e : c1 a b = 0
    · rw [if_pos e, if_pos (by omega)]; exact h2.swap a b
    · rw [if_neg e, if_neg (by omega)]; exact this
  · unfold orC
    have s1 := h1.swap a b
    by_cases e : c1 a b = 0
    · have z := h1.zero_left d e
      rw [if_pos e, z]
      split
      · exact h2.trans a b d
      · exact fun _ x => x
    · rw [if_neg e]
      by_cases e2 : c1 b d = 0
      · have z := h1.zero_left a e2
        have s2 := h1.swap a d
        intro x _
        rw [if_neg (by omega)]
        omega
      · rw [if_neg e2]
        intro x y
        have t := h1.trans a b d x y
        have s3 := h1.swap a d
        have s4 := h1.swap b d
        by_cases e3 : c1 a d = 0
        · have := h1.zero_left b e3
          omega
        · rw [if_neg e3]; exact t
theorem Tot.on {α β : Type} {c : α → α → Int} (h : Tot c) (f : β → α) : Tot (fun a b => c (f a) (f b)) :=
  ⟨fun _ _ => h.rng _ _, fun _ _ => h.swap _ _, fun _ _ _ => h.trans _ _ _⟩
def lexC {α : Type} (c : α → α → Int) : List α → List α → Int
  | [], [] => 0
  | [], _ :: _ => -1
  | _ :: _, [] => 1
  | a :: aR, b :: bs => if c a b = 0 then lexC c aR bs else c a b
theorem lexC_rng {α : Type} {c : α → α → Int} (h : Tot c) : ∀ a b, lexC c a b = -1 ∨ lexC c a b = 0 ∨ lexC c a b = 1
  | [], [] => by simp [lexC]
  | [], _ :: _ => by simp [lexC]
  | _ :: _, [] => by simp [lexC]
  | a :: aR, b :: bs => by
    unfold lexC
    split
    · exact lexC_rng h aR bs
    · exact h.rng a b
theorem lexC_swap {α : Type} {c : α → α → Int} (h : Tot c) : ∀ a b, lexC c b a = - lexC c a b
  | [], [] => by simp [lexC]
  | [], _ :: _ => by simp [lexC]
  | _ :: _, [] => by simp [lexC]
  | a :: aR, b :: bs => by
    have := h.swap a b
    have ih := lexC_swap h aR bs
    unfold lexC
    by_cases e : c a b = 0
    · rw [if_pos e, if_pos (by omega)]; exact ih
    · rw [if_neg e, if_neg (by omega)]; exact this
theorem lexC_trans {α : Type} {c : α → α → Int} (h : Tot c) : ∀ a b d, lexC c a b ≤ 0 → lexC c b d ≤ 0 → lexC c a d ≤ 0
  | [], _, [], _, _ => by simp [lexC]
  | [], _, _ :: _, _, _ => by simp [lexC]
  | _ :: _, [], _, x, _ => by simp [lexC] at x
  | _ :: _, _ :: _, [], _, y => by simp [lexC] at y
  | a :: aR, b :: bs, d :: ds, x, y => by
    have ih := lexC_trans h aR bs ds
    unfold lexC at x y ⊢
    have s1 := h.swap a b
    have s2 := h.swap b d
    have s3 := h.swap a d
    by_cases e : c a b = 0
    · have z := h.zero_left d e
      rw [if_pos e] at x
      rw [z]
      split at y
      · rename_i e2
        rw [if_pos e2]; exact ih x y
      · rename_i e2
        rw [if_neg e2]; exact y
    · rw [if_neg e] at x
      by_cases e2 : c b d = 0
      · have z := h.zero_left a e2
        rw [if_neg (by omega)]; omega
      · rw [if_neg e2] at y
        have t := h.trans a b d x y
        by_cases e3 : c a d = 0
        · have := h.zero_left b e3
          omega
        · rw [if_neg e3]; exact t
theorem Tot.lex {α : Type} {c : α → α → Int} (h : Tot c) : Tot (lexC c) := ⟨lexC_rng h, lexC_swap h, lexC_trans h⟩
def cmpI (a b : Int) : Int := if a < b then -1 else if b < a then 1 else 0
theorem cmpI_tot : Tot cmpI := by
  refine ⟨fun a b => ?_, fun a b => ?_, fun a b d => ?_⟩ <;> unfold cmpI <;> repeat' split
  all_goals first | omega | simp | skip
  all_goals first | omega | skip
def cmpB (a b : UInt8) : Int := cmpI a.toNat b.toNat
theorem compareBytes_lex : ∀ a b, compareBytes a b = lexC cmpB a b
  | [], [] => rfl
  | [], _ :: _ => rfl
  | _ :: _, [] => rfl
  | a :: aR, b :: bs => by
    unfold compareBytes lexC cmpB cmpI
    simp only [UInt8.lt_iff_toNat_lt]
    by_cases h1 : a.toNat < b.toNat
    · rw [if_pos h1]
      rw [if_neg (by rw [if_pos (by omega)]; decide), if_pos (by omega)]
    · rw [if_neg h1]
      by_cases h2 : b.toNat < a.toNat
      · rw [if_pos h2, if_neg (by rw [if_neg (by omega), if_pos (by omega)]; decide), if_neg (by omega), if_pos (by omega)]
      · rw [if_neg h2, if_pos (by rw [if_neg (by omega), if_neg (by omega)])]
        exact compareBytes_lex aR bs
theorem bytes_tot : Tot compareBytes := by
  have : compareBytes = lexC cmpB := by funext a b; exact compareBytes_lex a b
  rw [this]
  exact (cmpI_tot.on fun c : UInt8 => (c.toNat : Int)).lex
theorem bytes_eq : ∀ a b : Str, compareBytes a b = 0 → a = b
  | [], [], _ => rfl
  | [], _ :: _, h => by simp [compareBytes] at h
  | _ :: _, [], h => by simp [compareBytes] at h
  | a :: aR, b :: bs, h => by
    unfold compareBytes at h
    split at h
    · simp at h
    · split at h
      · simp at h
      · rename_i h1 h2
        rw [UInt8.lt_iff_toNat_lt] at h1 h2
        have : a = b := UInt8.toNat_inj.1 (by omega)
        rw [this, bytes_eq aR bs h]
def dg (c : UInt8) : Bool := decide (48 ≤ c.toNat) && decide (c.toNat ≤ 57)
def runN (d : Bool) : Str → Nat
  | [] => 0
  | c :: r => if dg c = d then runN d r + 1 else 0
theorem runN_le (d : Bool) : ∀ s, runN d s ≤ s.length
  | [] => Nat.le_refl _
  | c :: r => by
    unfold runN
    have := runN_le d r
    split <;> simp <;> omega
def elemN : Str → Nat
  | [] => 0
  | c :: r => runN (dg c) r + 1
theorem elemN_le (s : Str) : elemN s ≤ s.length := by
  cases s with
  | nil => exact Nat.le_refl _
  | cons c r =>
    have := runN_le (dg c) r
    simp [elemN]; omega
theorem elemN_pos (s : Str) (h : s ≠ []) : 1 ≤ elemN s := by
  cases s with
  | nil => exact absurd rfl h
  | cons c r => simp [elemN]
def elemsF : Nat → Str → List Str
  | 0, _ => []
  | n + 1, s => if s = [] then [] else s.take (elemN s) :: elemsF n (s.drop (elemN s))
theorem elemsF_fuel : ∀ (n m : Nat) (s : Str), s.length ≤ n → s.length ≤ m → elemsF n s = elemsF m s
  | 0, 0, s, _, _ => rfl
  | 0, m + 1, s, h, _ => by
    have : s = [] := List.eq_nil_of_length_eq_zero (by omega)
    subst this
    simp [elemsF]
  | n + 1, 0, s, _, h => by
    have : s = [] := List.eq_nil_of_length_eq_zero (by omega)
    subst this
    simp [elemsF]
  | n + 1, m + 1, s, h1, h2 => by
    unfold elemsF
    split
    · rfl
    · rename_i h
      have := elemN_pos s h
      rw [elemsF_fuel n m _ (by rw [List.length_drop]; omega) (by rw [List.length_drop]; omega)]
def elems (s : Str) : List Str := elemsF s.length s
theorem elems_cons (s : Str) (h : s ≠ []) : elems s = s.take (elemN s) :: elems (s.drop (elemN s)) := by
  have hp := elemN_pos s h
  have hl := List.length_pos_iff.2 h
  unfold elems
  rw [show s.length = (s.length - 1) + 1 by omega]
  conv => lhs; unfold elemsF
  rw [if_neg h, elemsF_fuel (s.length - 1) (s.drop (elemN s)).length _ (by rw [List.length_drop]; omega) (Nat.le_refl _)]
def numS : Str → Bool
  | [] => false
  | c :: _ => dg c
def bareS (s : Str) : Str := s.dropWhile (fun c => c == 48)
def clsS (s : Str) : Int := if numS s then 0 else 1
def lenS (s : Str) : Int := if numS s then ((bareS s).length : Int) else 0
def keyS (s : Str) : Str := if numS s then bareS s else s
def cmpE : Str → Str → Int := orC (fun a b => cmpI (clsS a) (clsS b)) (orC (fun a b => cmpI (lenS a) (lenS b)) (fun a b => compareBytes (keyS a) (keyS b)))
theorem cmpE_tot : Tot cmpE := (cmpI_tot.on clsS).or ((cmpI_tot.on lenS).or (bytes_tot.on keyS))
theorem cmpE_nums (a b : Str) (ha : numS a = true) (hb : numS b = true) : cmpE a b = if cmpI ((bareS a).length : Int) ((bareS b).length : Int) = 0 then compareBytes (bareS a) (bareS b) else cmpI ((bareS a).length : Int) ((bareS b).length : Int) := by
  unfold cmpE orC clsS lenS keyS
  simp [ha, hb, cmpI]
theorem cmpE_num (a b : Str) (ha : numS a = true) (hb : numS b = false) : cmpE a b = -1 := by
  unfold cmpE orC clsS
  simp [ha, hb, cmpI]
theorem cmpE_other (a b : Str) (ha : numS a = false) (hb : numS b = true) : cmpE a b = 1 := by
  unfold cmpE orC clsS
  simp [ha, hb, cmpI]
theorem cmpE_texts (a b : Str) (ha : numS a = false) (hb : numS b = false) : cmpE a b = compareBytes a b := by
  unfold cmpE orC clsS lenS keyS
  simp [ha, hb, cmpI]
def cmpM : Str → Str → Int := orC (fun a b => lexC cmpE (elems a) (elems b)) compareBytes
theorem cmpM_tot : Tot cmpM := (cmpE_tot.lex.on elems).or bytes_tot
theorem cmpM_zero (a b : Str) : cmpM a b = 0 ↔ a = b := by
  constructor
  · intro h
    unfold cmpM orC at h
    split at h
    · exact bytes_eq a b h
    · rename_i h'; exact absurd h h'
  · rintro rfl
    exact cmpM_tot.self a
def Dgs (l : Str) : Prop := ∀ c ∈ l, dg c = true
def numN (l : Str) : Nat := l.foldl (fun n c => 10 * n + (c.toNat - 48)) 0
theorem dg_val {c : UInt8} (h : dg c = true) : 48 ≤ c.toNat ∧ c.toNat ≤ 57 := by simpa [dg] using h
theorem decFrom_fold : ∀ (l : Str) (acc : Nat), Dgs l → Lib.decFrom acc l = some (l.foldl (fun n c => 10 * n + (c.toNat - 48)) acc)
  | [], acc, _ => rfl
  | c :: r, acc, h => by
    have hc := dg_val (h c (by simp))
    unfold Lib.decFrom Lib.digitVal
    rw [if_pos hc]
    simp only
    rw [decFrom_fold r _ (fun x hx => h x (List.mem_cons_of_mem _ hx)), List.foldl_cons, Nat.mul_comm acc 10]
theorem atoi_num (l : Str) (h0 : l ≠ []) (h : Dgs l) : Lib.atoi l = some (numN l : Int) := by
  cases l with
  | nil => exact absurd rfl h0
  | cons c r =>
    have hc := dg_val (h c (by simp))
    have e1 : (c == 45) = false := by
      rw [beq_eq_false_iff_ne]
      rintro rfl
      simp at hc
    have e2 : (c == 43) = false := by
      rw [beq_eq_false_iff_ne]
      rintro rfl
      simp at hc
    unfold Lib.atoi
    dsimp only
    rw [e1, e2, if_neg (by simp), if_neg (by simp)]
    unfold Lib.decNat
    rw [if_neg (by simp), decFrom_fold _ 0 h]
    rfl
theorem numN_snoc (l : Str) (c : UInt8) : numN (l ++ [c]) = 10 * numN l + (c.toNat - 48) := by simp [numN]
theorem fold_le : ∀ (l : Str) (acc : Nat), Dgs l → l.foldl (fun n c => 10 * n + (c.toNat - 48)) acc < (acc + 1) * 10 ^ l.length
  | [], acc, _ => by simp
  | c :: r, acc, h => by
    have hc := dg_val (h c (by simp))
    have ih := fold_le r (10 * acc + (c.toNat - 48)) (fun x hx => h x (List.mem_cons_of_mem _ hx))
    rw [List.foldl_cons, List.length_cons, Nat.pow_succ]
    refine Nat.lt_of_lt_of_le ih ?_
    rw [Nat.mul_comm (10 ^ r.length) 10, ← Nat.mul_assoc]
    exact Nat.mul_le_mul_right _ (by omega)
theorem numN_lt (l : Str) (h : Dgs l) : numN l < 10 ^ l.length := by
  have := fold_le l 0 h
  simpa [numN] using this
theorem numN_small (l : Str) (h : Dgs l) (hl : l.length ≤ 16) : numN l < 10000000000000000 := by
  have h1 := numN_lt l h
  have h2 : 10 ^ l.length ≤ 10 ^ 16 := Nat.pow_le_pow_right (by omega) hl
  have h3 : 10 ^ 16 = 10000000000000000 := by decide
  omega
theorem dec_small {u : Nat} (h : u < 10) : decDigits u = [UInt8.ofNat (48 + u)] := Lib.decDigits_one h
theorem dec_step (m d : Nat) (hm : 1 ≤ m) (hd : d < 10) : decDigits (10 * m + d) = decDigits m ++ [UInt8.ofNat (48 + d)] := by
  conv => lhs; rw [decDigits]
  rw [dif_neg (by omega), show (10 * m + d) / 10 = m by omega, show (10 * m + d) % 10 = d by omega]
theorem ofNat_val {d : Nat} (h : d < 10) : (UInt8.ofNat (48 + d)).toNat = 48 + d := by
  simp
  omega
theorem dg_ofNat {d : Nat} (h : d < 10) : dg (UInt8.ofNat (48 + d)) = true := by
  unfold dg
  rw [ofNat_val h]
  simp
  omega
theorem dec_facts : ∀ (n u : Nat), u ≤ n → Dgs (decDigits u) ∧ numN (decDigits u) = u ∧ 1 ≤ (decDigits u).length
  | 0, u, h => by
    obtain rfl : u = 0 := by omega
    rw [dec_small (by omega)]
    refine ⟨fun c hc => ?_, rfl, by simp⟩
    obtain rfl : c = UInt8.ofNat (48 + 0) := by simpa using hc
    decide
  | n + 1, u, h => by
    by_cases hu : u < 10
    · rw [dec_small hu]
      refine ⟨fun c hc => ?_, ?_, by simp⟩
      · obtain rfl : c = UInt8.ofNat (48 + u) := by simpa using hc
        exact dg_ofNat hu
      · show 10 * 0 + ((UInt8.ofNat (48 + u)).toNat - 48) = u
        rw [ofNat_val hu]
        omega
    · obtain ⟨m, d, hm, hd, rfl⟩ : ∃ m d, 1 ≤ m ∧ d < 10 ∧ u = 10 * m + d := ⟨u / 10, u % 10, by omega, by omega, by omega⟩
      obtain ⟨h1, h2, h3⟩ := dec_facts n m (by omega)
      rw [dec_step m d hm hd]
      refine ⟨fun c hc => ?_, ?_, by simp⟩
      · rcases List.mem_append.1 hc with hc | hc
        · exact h1 c hc
        · obtain rfl : c = UInt8.ofNat (48 + d) := by simpa using hc
          exact dg_ofNat hd
      · rw [numN_snoc, h2, ofNat_val hd]
        omega
theorem dec_dgs (u : Nat) : Dgs (decDigits u) := (dec_facts u u (Nat.le_refl _)).1
theorem dec_num (u : Nat) : numN (decDigits u) = u := (dec_facts u u (Nat.le_refl _)).2.1
theorem dec_pos (u : Nat) : 1 ≤ (decDigits u).length := (dec_facts u u (Nat.le_refl _)).2.2
theorem dec_len (u k : Nat) (h : u < 10 ^ k) (hk : 1 ≤ k) : (decDigits u).length ≤ k := by
  induction k generalizing u with
  | zero => omega
  | succ k ih =>
    by_cases hu : u < 10
    · rw [dec_small hu]
      simp
    · obtain ⟨m, d, hm, hd, rfl⟩ : ∃ m d, 1 ≤ m ∧ d < 10 ∧ u = 10 * m + d := ⟨u / 10, u % 10, by omega, by omega, by omega⟩
      rw [dec_step m d hm hd, List.length_append]
      rw [Nat.pow_succ] at h
      have hk' : 1 ≤ k := by
        rcases Nat.eq_zero_or_pos k with h0 | h0
        · subst h0; simp at h; omega
        · exact h0
      have := ih m (by omega) hk'
      simp
      omega
def zerosS (k : Nat) : Str := List.replicate k 48
def wrS (n w : Nat) : Str := zerosS (w - (decDigits n).length) ++ decDigits n
theorem num_zeros : ∀ (k : Nat) (l : Str), numN (zerosS k ++ l) = numN l
  | 0, l => rfl
  | k + 1, l => by
    have ih := num_zeros k l
    unfold numN zerosS at ih ⊢
    rw [List.replicate_succ]
    simpa using ih
theorem wr_num (n w : Nat) : numN (wrS n w) = n := by unfold wrS; rw [num_zeros, dec_num]
theorem wr_dgs (n w : Nat) : Dgs (wrS n w) := fun c hc => by
  rcases List.mem_append.1 hc with hc | hc
  · obtain rfl : c = 48 := List.eq_of_mem_replicate hc
    decide
  · exact dec_dgs n c hc
theorem wr_len (n w : Nat) : (wrS n w).length = max w (decDigits n).length := by
  unfold wrS zerosS
  rw [List.length_append, List.length_replicate]
  omega
theorem wr_ne (n w : Nat) : wrS n w ≠ [] := fun e => by
  have h1 := wr_len n w
  have h2 := dec_pos n
  rw [e] at h1
  simp at h1
  omega
theorem wr_self : ∀ (k : Nat) (u : Str), u.length = k + 1 → Dgs u → wrS (numN u) u.length = u
  | 0, u, hl, h => by
    match u, hl with
    | [c], _ =>
      have hc := dg_val (h c (by simp))
      have hn : numN [c] = c.toNat - 48 := by simp [numN]
      have hd : decDigits (c.toNat - 48) = [c] := by
        rw [dec_small (by omega), show 48 + (c.toNat - 48) = c.toNat by omega]
        simp
      unfold wrS
      rw [hn, hd]
      rfl
  | k + 1, u, hl, h => by
    obtain ⟨a, c, rfl⟩ : ∃ a c, u = a ++ [c] := by
      rcases List.eq_nil_or_concat u with h0 | ⟨a, c, h0⟩
      · rw [h0] at hl; simp at hl
      · exact ⟨a, c, by simpa using h0⟩
    have ha : a.length = k + 1 := by simpa using hl
    have hda : Dgs a := fun x hx => h x (List.mem_append_left _ hx)
    have hc := dg_val (h c (by simp))
    have ih := wr_self k a ha hda
    have hcc : UInt8.ofNat (48 + (c.toNat - 48)) = c := by rw [show 48 + (c.toNat - 48) = c.toNat by omega]; simp
    rw [numN_snoc]
    generalize numN a = m at ih ⊢
    by_cases hm : m = 0
    · subst hm
      have h0 : decDigits 0 = [48] := by rw [dec_small (by omega)]; rfl
      have hz : a = zerosS a.length := by
        conv => lhs; rw [← ih]
        unfold wrS
        rw [h0]
        unfold zerosS
        rw [ha]
        show List.replicate (k + 1 - 1) 48 ++ [48] = List.replicate (k + 1) 48
        rw [List.replicate_succ', show k + 1 - 1 = k by omega]
      unfold wrS
      rw [show 10 * 0 + (c.toNat - 48) = c.toNat - 48 by omega, dec_small (by omega), hcc]
      conv => rhs; rw [hz]
      rw [List.length_append]
      congr 1
    · unfold wrS at ih ⊢
      rw [dec_step m _ (by omega) (by omega), hcc, List.length_append, List.length_append, List.length_singleton,
        show a.length + 1 - ((decDigits m).length + 1) = a.length - (decDigits m).length by omega, ← List.append_assoc, ih]
def preS (s : Str) : Str := (s.reverse.dropWhile dg).reverse
def lastS (s : Str) : Str := s.drop (preS s).length
theorem digits_dg (c : UInt8) : ([48, 49, 50, 51, 52, 53, 54, 55, 56, 57] : Str).contains c = dg c := by
  unfold dg
  rw [Bool.eq_iff_iff]
  simp only [List.contains_iff_mem, List.mem_cons, List.not_mem_nil, or_false, Bool.and_eq_true, decide_eq_true_eq]
  constructor
  · rintro (rfl | rfl | rfl | rfl | rfl | rfl | rfl | rfl | rfl | rfl) <;> decide
  · intro h
    have : c = UInt8.ofNat c.toNat := by simp
    rcases (show c.toNat = 48 ∨ c.toNat = 49 ∨ c.toNat = 50 ∨ c.toNat = 51 ∨ c.toNat = 52 ∨ c.toNat = 53 ∨ c.toNat = 54 ∨ c.toNat = 55 ∨ c.toNat = 56 ∨ c.toNat = 57 by omega) with h | h | h | h | h | h | h | h | h | h <;> rw [h] at this <;> simp [this]
theorem trim_pre (s : Str) : Lib.trimRightS s [48, 49, 50, 51, 52, 53, 54, 55, 56, 57] = preS s := by
  unfold Lib.trimRightS preS
  congr 2
  funext c
  exact digits_dg c
theorem pre_split (s : Str) : preS s ++ lastS s = s := by
  have h : preS s <+: s := by
    unfold preS
    rw [← List.reverse_suffix, List.reverse_reverse]
    exact List.dropWhile_suffix _
  unfold lastS
  obtain ⟨t, ht⟩ := h
  conv => lhs; rw [← ht]
  rw [show preS (preS s ++ t) = preS s by rw [ht]]
  simp
  exact ht
theorem dropWhile_head {p : UInt8 → Bool} : ∀ (l : Str) (c : UInt8) (r : Str), l.dropWhile p = c :: r → p c = false
  | [], c, r, h => by simp at h
  | x :: l, c, r, h => by
    by_cases hx : p x = true
    · rw [List.dropWhile_cons_of_pos hx] at h
      exact dropWhile_head l c r h
    · rw [List.dropWhile_cons_of_neg hx] at h
      injection h with h _
      subst h
      simpa using hx
theorem pre_end (s p : Str) (c : UInt8) (h : preS s = p ++ [c]) : dg c = false := by
  unfold preS at h
  have := congrArg List.reverse h
  rw [List.reverse_reverse, List.reverse_append] at this
  exact dropWhile_head _ c _ this
theorem pre_app (p v : Str) (hv : Dgs v) (hp : ∀ q c, p = q ++ [c] → dg c = false) : preS (p ++ v) = p := by
  unfold preS
  rw [List.reverse_append, List.dropWhile_append_of_pos (fun x hx => hv x (by simpa using hx))]
  cases hr : p.reverse with
  | nil =>
    have : p = [] := by simpa using hr
    rw [this]
    rfl
  | cons c r =>
    have hpc : p = r.reverse ++ [c] := by
      have := congrArg List.reverse hr
      simpa using this
    rw [List.dropWhile_cons_of_neg (by rw [hp _ _ hpc]; simp)]
    rw [hpc]
    simp
theorem last_app (p v : Str) (hv : Dgs v) (hp : ∀ q c, p = q ++ [c] → dg c = false) : lastS (p ++ v) = v := by
  unfold lastS
  rw [pre_app p v hv hp]
  simp
theorem takeWhile_all {p : UInt8 → Bool} : ∀ (l : Str), ∀ x ∈ l.takeWhile p, p x = true
  | [], x, h => by simp at h
  | y :: l, x, h => by
    by_cases hy : p y = true
    · rw [List.takeWhile_cons_of_pos hy] at h
      rcases List.mem_cons.1 h with h | h
      · rw [h]; exact hy
      · exact takeWhile_all l x h
    · rw [List.takeWhile_cons_of_neg hy] at h
      simp at h
theorem last_dgs (s : Str) : Dgs (lastS s) := by
  have h1 : s = preS s ++ (s.reverse.takeWhile dg).reverse := by
    unfold preS
    rw [← List.reverse_append, List.takeWhile_append_dropWhile]
    simp
  have h2 : lastS s = (s.reverse.takeWhile dg).reverse := by
    have := pre_split s
    conv at this => rhs; rw [h1]
    exact List.append_cancel_left this
  rw [h2]
  intro c hc
  exact takeWhile_all _ c (by simpa using hc)
end Go.Proofs.YtlgmanbilaminaaGreatDoor.S3
namespace Go.Proofs.YtlgmanbilaminaaGreatDoor
open Go Go.Proofs Go.RowKit Go.Lib
def IntsIn (w : World) (B : Nat) (A : Option Addr) (L : List Int) : Prop :=
  L = [] ∨ ∃ b off, A = some ⟨b, off, none⟩ ∧ b < B ∧ ∀ (j : Nat) (v : Int), L[j]? = some v → w.cell? ⟨b, off + j, none⟩ = some (.int .i64 v)
theorem IntsIn.below {w w' : World} {B : Nat} {A : Option Addr} {L : List Int} (h : IntsIn w B A L) (hb : Below B w w') : IntsIn w' B A L := by
  rcases h with h | ⟨b, off, hA, hlt, hc⟩
  · exact .inl h
  · exact .inr ⟨b, off, hA, hlt, fun j v hv => (hb.cell (p := ⟨b, off + j, none⟩) hlt).trans (hc j v hv)⟩
structure Rolled (g : Nat) (w w' : World) : Prop where
  os : w'.os = w.os
  tape : w'.tape = w.tape
  output : w'.output = w.output
  size : w'.heap.size = w.heap.size
  block : ∀ k, k ≠ g → w'.heap[k]? = w.heap[k]?
theorem Rolled.refl (g : Nat) (w : World) : Rolled g w w := ⟨rfl, rfl, rfl, rfl, fun _ _ => rfl⟩
theorem Rolled.trans {g : Nat} {a b c : World} (h : Rolled g a b) (k : Rolled g b c) : Rolled g a c :=
  ⟨k.os.trans h.os, k.tape.trans h.tape, k.output.trans h.output, k.size.trans h.size, fun i hi => (k.block i hi).trans (h.block i hi)⟩
theorem Rolled.drawn (g : Nat) (w : World) : ∀ n, Rolled g w (w.drewN n)
  | 0 => Rolled.refl g w
  | n + 1 => ⟨(Rolled.drawn g w n).os, (Rolled.drawn g w n).tape, (Rolled.drawn g w n).output, (Rolled.drawn g w n).size, (Rolled.drawn g w n).block⟩
theorem Rolled.set (g i : Nat) (w : World) (v : Value) : Rolled g w (w.setCell ⟨g, i, none⟩ v) :=
  ⟨by simp [World.setCell], by simp [World.setCell], by simp [World.setCell], by simp [World.setCell], fun k hk => Below.heap_setCell w ⟨g, i, none⟩ v k hk⟩
theorem Rolled.row {g B e z n : Nat} {w w' : World} (h : Rolled g w w') {v : Value} {xs : List Value} (hr : w.ownsRow B e z v n xs) (hv : v.ownBlock ≠ some g) : w'.ownsRow B e z v n xs := by
  obtain ⟨h1, h2⟩ := hr
  refine ⟨h1, ?_⟩
  rcases h2 with h2 | ⟨k, cap, cur, hk, hg, hh, r⟩
  · exact .inl h2
  · refine .inr ⟨k, cap, cur, hk, hg, (h.block k ?_).trans hh, r⟩
    intro e
    subst e
    exact hv (by rw [hk]; rfl)
structure DiceAt (w : World) (g : Nat) (A : Option Addr) (L : List Int) (c k : Nat) : Prop where
  cells : w.heap[g]? = some (.cells #[.slice A L.length c, .int .i64 (k : Int)] 87 (0, 0))
  le : k ≤ L.length
  ints : IntsIn w g A L
  few : L.length ≤ 400
theorem DiceAt.list {w : World} {g c k : Nat} {A : Option Addr} {L : List Int} (h : DiceAt w g A L c k) : w.cell? ⟨g, 0, none⟩ = some (.slice A L.length c) := by
  rw [Lib.cell_of_heap h.cells]
  rfl
theorem DiceAt.at_ {w : World} {g c k : Nat} {A : Option Addr} {L : List Int} (h : DiceAt w g A L c k) : w.cell? ⟨g, 1, none⟩ = some (.int .i64 (k : Int)) := by
  rw [Lib.cell_of_heap h.cells]
  rfl
theorem DiceAt.rolled {w w' : World} {g c k : Nat} {A : Option Addr} {L : List Int} (h : DiceAt w g A L c k) (hr : ∀ i, i ≤ g → w'.heap[i]? = w.heap[i]?) : DiceAt w' g A L c k := by
  refine ⟨(hr g (Nat.le_refl _)).trans h.cells, h.le, ?_, h.few⟩
  rcases h.ints with h' | ⟨b, off, hA, hlt, hc⟩
  · exact .inl h'
  · exact .inr ⟨b, off, hA, hlt, fun j v hv => (World.cell?_of_block (w := w) (hr b (by omega))).trans (hc j v hv)⟩
def modI (n m : Int) : Int := if m < 1 then 0 else if n.tmod m < 0 then n.tmod m + m else n.tmod m
theorem modI_range (n m : Int) (h : 1 ≤ m) : 0 ≤ modI n m ∧ modI n m < m := by
  unfold modI
  have h1 := Int.tmod_lt_of_pos n (show (0 : Int) < m by omega)
  have h2 := Int.lt_tmod_of_pos n (show (0 : Int) < m by omega)
  rw [if_neg (by omega)]
  split <;> omega
set_option maxHeartbeats 1000000 in
theorem mod_any (n m : Int) (hm : m ≤ 4294967296) (w : World) : Calls Tryz.prog 33 #[.int .i64 n, .int .i64 m] w fun e w' => e = .returned (.int .i64 (modI n m)) ∧ w = w' := by
  by_cases h : m < 1
  · have e : modI n m = 0 := if_pos h
    rw [e]
    go_enter Tryz.func33, Tryz.ntmps33
    go_wp2
    go_ret
    exact ⟨rfl, rfl⟩
  · have hne : (m == 0) = false := by simp; omega
    have ha := Int.tmod_lt_of_pos n (show (0 : Int) < m by omega)
    have hb := Int.lt_tmod_of_pos n (show (0 : Int) < m by omega)
    have hE : modI n m = if n.tmod m < 0 then n.tmod m + m else n.tmod m := if_neg h
    have HE := hid hE
    clear hE
    go_enter Tryz.func33, Tryz.ntmps33
    go_wp2
    · have e : modI n m = n.tmod m + m := by rw [HE.out]; exact if_pos (by assumption)
      rw [e]
      go_ret
      exact ⟨rfl, rfl⟩
    · have e : modI n m = n.tmod m := by rw [HE.out]; exact if_neg (by omega)
      rw [e]
      go_ret
      exact ⟨rfl, rfl⟩
theorem DiceAt.next {w : World} {g c k : Nat} {A : Option Addr} {L : List Int} (h : DiceAt w g A L c k) (hk : k < L.length) : DiceAt (w.setCell ⟨g, 1, none⟩ (.int .i64 ((k : Int) + 1))) g A L c (k + 1) := by
  refine ⟨?_, hk, ?_, h.few⟩
  · rw [heap_setCell_same w g 1 _ _ _ h.cells]
    rfl
  · rcases h.ints with h' | ⟨b, off, hA, hlt, hc⟩
    · exact .inl h'
    · refine .inr ⟨b, off, hA, hlt, fun j v hv => ?_⟩
      have : (w.setCell ⟨g, 1, none⟩ (.int .i64 ((k : Int) + 1))).heap[b]? = w.heap[b]? := Below.heap_setCell w _ _ b (by show b ≠ g; omega)
      exact (World.cell?_of_block (w := w) this).trans (hc j v hv)
theorem DiceAt.drawn {w : World} {g c k : Nat} {A : Option Addr} {L : List Int} (h : DiceAt w g A L c k) (n : Nat) : DiceAt (w.drewN n) g A L c k :=
  h.rolled fun i _ => by
    by_cases e : i = g + 1
    · exact (Rolled.drawn g w n).block i (by omega)
    · exact (Rolled.drawn (g + 1) w n).block i e
theorem DiceAt.free {w : World} {g c k : Nat} {A : Option Addr} {L : List Int} (h : DiceAt w g A L c k) (j : Nat) : w.frozen? ⟨g, j, none⟩ = false := by
  simp [World.frozen?, h.cells]
set_option maxHeartbeats 2000000 in
set_option maxRecDepth 100000 in
theorem next_any (g c k : Nat) (A : Option Addr) (L : List Int) (n : Int) (hn : n ≤ 4294967296) (w : World) (h : DiceAt w g A L c k) :
    Calls Tryz.prog 28 #[.pointer (some ⟨g, 0, none⟩), .int .i64 n] w fun e w' => (∃ r : Int, e = .returned (.int .i64 r) ∧ (1 ≤ n → 0 ≤ r ∧ r < n)) ∧ (∃ k', DiceAt w' g A L c k') ∧ Rolled g w w' := by
  have h0 := h.list
  have h1 := h.at_
  have hle := h.le
  have hfew := h.few
  have H := hid h
  clear h
  by_cases hk : k < L.length
  · have hkz : ¬ (L.length : Int) ≤ (k : Int) := by omega
    have hkb : decide (L.length ≤ k) = false := decide_eq_false (by omega)
    go_enter Tryz.func28, Tryz.ntmps28
    go_wp2
    go_quiet (fail)
    have hD := H.out.drawn nq
    have hR := Rolled.drawn g w nq
    generalize w.drewN nq = w1 at hD hR ⊢
    clear h0 h1 H
    have h0 := hD.list
    have h1 := hD.at_
    have hf := hD.free 1
    have hD2 := hD.next hk
    have hR2 := hR.trans (Rolled.set g 1 w1 (.int .i64 ((k : Int) + 1)))
    have HD2 := hid hD2
    have HR2 := hid hR2
    clear hD hR hD2 hR2
    go_wp2
    have hD := HD2.out
    have hR := HR2.out
    clear HD2 HR2 h0 h1 hf
    generalize w1.setCell ⟨g, 1, none⟩ (.int .i64 ((k : Int) + 1)) = w2 at hD hR ⊢
    have h0 := hD.list
    have h1 := hD.at_
    rw [show (((k + 1 : Nat)) : Int) = (k : Int) + 1 by omega] at h1
    obtain ⟨v, hv⟩ : ∃ v, L[k]? = some v := ⟨_, List.getElem?_eq_getElem hk⟩
    obtain ⟨b, off, rfl, hc⟩ : ∃ b off, A = some ⟨b, off, none⟩ ∧ w2.cell? ⟨b, off + k, none⟩ = some (.int .i64 v) := by
      rcases hD.ints with h' | ⟨b, off, hA, _, hc⟩
      · rw [h'] at hk; simp at hk
      · exact ⟨b, off, hA, hc k v hv⟩
    have HD := hid hD
    have HR := hid hR
    have hm := modI_range v n
    have HM := hid hm
    clear hD hR hv hm
    go_quiet ((go_at_call 33; with_reducible refine Calls.quiet_of_same ((mod_any v n hn _).mono fun _ _ h => ⟨h.1, h.2.symm⟩)))
    go_wp2
    go_ret
    exact ⟨⟨_, rfl, HM.out⟩, ⟨_, HD.out.drawn nq⟩, HR.out.trans (Rolled.drawn g w2 nq)⟩
  · have hkz : (L.length : Int) ≤ (k : Int) := by omega
    have hkb : decide (L.length ≤ k) = true := decide_eq_true (by omega)
    go_enter Tryz.func28, Tryz.ntmps28
    go_wp2
    go_quiet (fail)
    go_wp2
    go_ret
    exact ⟨⟨0, rfl, fun _ => by omega⟩, ⟨_, H.out.drawn nq⟩, Rolled.drawn g w nq⟩
structure Played (B g : Nat) (a w : World) : Prop where
  os : w.os = a.os
  tape : w.tape = a.tape
  output : w.output = a.output
  size : a.heap.size ≤ w.heap.size
  block : ∀ k, k < B → k ≠ g → w.heap[k]? = a.heap[k]?
theorem Played.refl (B g : Nat) (w : World) : Played B g w w := ⟨rfl, rfl, rfl, Nat.le_refl _, fun _ _ _ => rfl⟩
theorem Played.trans {B B' g : Nat} {a b c : World} (h : Played B g a b) (k : Played B' g b c) (hB : B ≤ B') : Played B g a c :=
  ⟨k.os.trans h.os, k.tape.trans h.tape, k.output.trans h.output, Nat.le_trans h.size k.size, fun i hi hg => (k.block i (by omega) hg).trans (h.block i hi hg)⟩
theorem Played.below {B g : Nat} {a w w' : World} (h : Played B g a w) (k : Below B w w') : Played B g a w' :=
  ⟨k.os.trans h.os, k.tape.trans h.tape, k.output.trans h.output, Nat.le_trans h.size k.size, fun i hi hg => (k.block i hi).trans (h.block i hi hg)⟩
theorem Played.rolled {B g : Nat} {a w w' : World} (h : Played B g a w) (k : Rolled g w w') : Played B g a w' :=
  ⟨k.os.trans h.os, k.tape.trans h.tape, k.output.trans h.output, by rw [k.size]; exact h.size, fun i hi hg => (k.block i hg).trans (h.block i hi hg)⟩
theorem Played.toBelow {B B' g : Nat} {a w : World} (h : Played B g a w) (h1 : B' ≤ B) (h2 : B' ≤ g) : Below B' a w :=
  ⟨h.os, h.tape, h.output, h.size, fun k hk => h.block k (by omega) (by omega)⟩
theorem Played.row {B g B0 e z n : Nat} {a w : World} (h : Played B g a w) {v : Value} {xs : List Value} (hr : a.ownsRow B0 e z v n xs) (hv : ∀ k, v.ownBlock = some k → k < B ∧ k ≠ g) : w.ownsRow B0 e z v n xs := by
  obtain ⟨h1, h2⟩ := hr
  refine ⟨h1, ?_⟩
  rcases h2 with h2 | ⟨k, cap, cur, hk, hg, hh, r⟩
  · exact .inl h2
  · obtain ⟨h3, h4⟩ := hv k (by rw [hk]; rfl)
    exact .inr ⟨k, cap, cur, hk, hg, (h.block k h3 h4).trans hh, r⟩
theorem DiceAt.below {w w' : World} {g c k B : Nat} {A : Option Addr} {L : List Int} (h : DiceAt w g A L c k) (hb : Below B w w') (hg : g < B) : DiceAt w' g A L c k :=
  h.rolled fun i hi => hb.block i (by omega)
theorem DiceAt.lt {w : World} {g c k : Nat} {A : Option Addr} {L : List Int} (h : DiceAt w g A L c k) : g < w.heap.size := (Array.getElem?_eq_some_iff.1 h.cells).1
theorem row_string {P : Program} {w : World} {B : Nat} {v : Value} {l : List UInt8} {t : TypeId} (h : w.ownsRow B t 1 v l.length (byteCells l)) (src e dst : TypeId)
    (hs : P.underlying src = some (.slice e)) (he : P.underlying e = some (.int .u8)) (hd : P.underlying dst = some .string) :
    (Go.convert src dst v).run P w = .ok (.string ⟨l.toArray⟩) w := by
  rcases h.2 with ⟨hv, h0⟩ | ⟨k, cap, cur, hv, _⟩
  · have hl : l = [] := List.eq_nil_of_length_eq_zero h0
    rw [hv, run_convert_bytes_string w src dst e none _ _ hs he hd, hl]
    rfl
  · rw [hv]
    refine run_convert_bytes_back w src dst e ⟨k, 0, none⟩ cap l hs he hd (fun j hj => ?_)
    refine World.ownsRow.cells h (g := k) (by rw [hv]; rfl) j _ ?_
    unfold byteCells
    rw [List.getElem?_map, List.getElem?_eq_getElem hj]
    rfl
theorem byteCells_app (a b : List UInt8) : Go.Lib.byteCells (a ++ b) = Go.Lib.byteCells a ++ Go.Lib.byteCells b := by simp [Go.Lib.byteCells]
theorem byteCells_len (a : List UInt8) : (Go.Lib.byteCells a).length = a.length := by simp [Go.Lib.byteCells]
theorem one_new (w : World) (a : Value) (t : TypeId) : ∀ (j : Nat) (u : Value), [a][j]? = some u → (w.alloc (.cells #[a] t)).cell? ((⟨w.heap.size, 0, none⟩ : Addr).add j) = some u := by
  intro j u hj
  match j, hj with
  | 0, hj => simp at hj; subst hj; simp [Addr.add]
  | j + 1, hj => simp at hj
theorem one_one (a : IntKind) (x : Int) : ∀ u ∈ [Value.int a x], u.oneCell' = true := by
  intro u hu
  simp at hu
  subst hu
  rfl
theorem grownBy_of_alloc {wr w2 : World} {o : Obj} {row : Option Nat} (hg : (wr.alloc o).grownBy w2 row) : wr.grownBy w2 row :=
  ⟨hg.os, hg.tape, hg.output, by have := hg.size; simp at this; omega, fun k hk hr => (hg.block k (by simp; omega) hr).trans (Below.heap_alloc wr o k hk)⟩
theorem infoByte : (Tryz.prog.info? 5).map (fun i => (i.zero, i.size, i.bytes)) = some (some (.int .u8 0), 1, 1) := by kernel_rfl
set_option maxHeartbeats 1000000 in
theorem light_any (A : Option Addr) (n c : Nat) (w : World) : Calls Tryz.prog 22 #[.slice A n c] w fun e w' => e = .returned (.bool (decide (n ≤ 400))) ∧ w = w' := by
  have e1 : decide ((n : Int) ≤ 400) = decide (n ≤ 400) := decide_eq_decide.2 (by omega)
  by_cases h : n ≤ 400
  · have hz : (n : Int) ≤ 400 := by omega
    rw [decide_eq_true h]
    go_enter Tryz.func22, Tryz.ntmps22
    go_wp2
    go_ret
    exact ⟨rfl, rfl⟩
  · have hz : ¬ (n : Int) ≤ 400 := by omega
    rw [decide_eq_false h]
    go_enter Tryz.func22, Tryz.ntmps22
    go_wp2
    go_ret
    exact ⟨rfl, rfl⟩
set_option maxHeartbeats 1000000 in
theorem roll_any (A : Option Addr) (L : List Int) (c : Nat) (hL : L.length ≤ 400) (w : World) (h : IntsIn w w.heap.size A L) :
    Calls Tryz.prog 23 #[.slice A L.length c] w fun e w' => e = .returned (.pointer (some ⟨w.heap.size, 0, none⟩)) ∧ DiceAt w' w.heap.size A L c 0 ∧ Below w.heap.size w w' := by
  have HH := hid h
  clear h
  go_enter Tryz.func23, Tryz.ntmps23
  go_wp2
  go_ret
  have hb := (Below.refl _ w).alloc (Nat.le_refl _) (.cells #[.slice A L.length c, .int .i64 0] 87)
  exact ⟨rfl, ⟨heap_alloc_new w _, Nat.zero_le _, HH.out.below hb, hL⟩, hb⟩
set_option maxHeartbeats 1000000 in
theorem one_any (g c k : Nat) (A : Option Addr) (L : List Int) (n : Int) (hn : n ≤ 4294967296) (hn1 : 1 ≤ n) (w : World) (h : DiceAt w g A L c k) :
    Calls Tryz.prog 27 #[.pointer (some ⟨g, 0, none⟩), .int .i64 n] w fun e w' => (∃ r : Bool, e = .returned (.bool r)) ∧ (∃ k', DiceAt w' g A L c k') ∧ Rolled g w w' := by
  have cN := next_any g c k A L n hn w h
  have CN := hid cN
  clear cN h
  go_enter Tryz.func27, Tryz.ntmps27
  go_wp2_with fail
  refine CN.out.mono ?_
  rintro e w1 ⟨⟨r, rfl, hr⟩, hd, hR⟩
  have HD := hid hd
  have HR := hid hR
  clear hd hR hr
  go_wp2
  go_ret
  exact ⟨⟨_, rfl⟩, HD.out, HR.out⟩
end Go.Proofs.YtlgmanbilaminaaGreatDoor
namespace Go.Proofs.YtlgmanbilaminaaGreatDoor.S3
open Go Go.Proofs Go.RowKit Go.Lib
def ltr (c : UInt8) : Bool := (decide (65 ≤ c.toNat) && decide (c.toNat ≤ 90)) || (decide (97 ≤ c.toNat) && decide (c.toNat ≤ 122))
def sgn (c : UInt8) : Bool := c.toNat == 95 || c.toNat == 45
def okC (c : UInt8) : Bool := ltr c || dg c || sgn c
def validC (s : Str) : Bool := match s with | [] => false | c :: _ => decide (s.length ≤ 16) && !sgn c && s.all okC
set_option maxHeartbeats 1000000 in
theorem isDigit_any (c : UInt8) (w : World) : Calls Tryz.prog 99 #[.int .u8 (c.toNat : Int)] w fun e w' => e = .returned (.bool (dg c)) ∧ w = w' := by
  unfold dg
  rcases (show c.toNat < 48 ∨ (48 ≤ c.toNat ∧ c.toNat ≤ 57) ∨ 57 < c.toNat by omega) with h | h | h
  · have z1 : ¬ (48 : Int) ≤ (c.toNat : Int) := by omega
    rw [show (decide (48 ≤ c.toNat) && decide (c.toNat ≤ 57)) = false by simp; omega]
    go_enter Tryz.func99, Tryz.ntmps99
    go_wp2
    go_ret
    exact ⟨rfl, rfl⟩
  · have z1 : (48 : Int) ≤ (c.toNat : Int) := by omega
    have z2 : (c.toNat : Int) ≤ 57 := by omega
    rw [show (decide (48 ≤ c.toNat) && decide (c.toNat ≤ 57)) = true by simp; omega]
    go_enter Tryz.func99, Tryz.ntmps99
    go_wp2
    go_ret
    exact ⟨rfl, rfl⟩
  · have z1 : (48 : Int) ≤ (c.toNat : Int) := by omega
    have z2 : ¬ (c.toNat : Int) ≤ 57 := by omega
    rw [show (decide (48 ≤ c.toNat) && decide (c.toNat ≤ 57)) = false by simp; omega]
    go_enter Tryz.func99, Tryz.ntmps99
    go_wp2
    go_ret
    exact ⟨rfl, rfl⟩
set_option maxHeartbeats 1000000 in
theorem digit_any (c : UInt8) (w : World) : Calls Tryz.prog 56 #[.int .u8 (c.toNat : Int)] w fun e w' => e = .returned (.bool (dg c)) ∧ w = w' := by
  unfold dg
  rcases (show c.toNat < 48 ∨ (48 ≤ c.toNat ∧ c.toNat ≤ 57) ∨ 57 < c.toNat by omega) with h | h | h
  · have z1 : ¬ (48 : Int) ≤ (c.toNat : Int) := by omega
    rw [show (decide (48 ≤ c.toNat) && decide (c.toNat ≤ 57)) = false by simp; omega]
    go_enter Tryz.func56, Tryz.ntmps56
    go_wp2
    go_ret
    exact ⟨rfl, rfl⟩
  · have z1 : (48 : Int) ≤ (c.toNat : Int) := by omega
    have z2 : (c.toNat : Int) ≤ 57 := by omega
    rw [show (decide (48 ≤ c.toNat) && decide (c.toNat ≤ 57)) = true by simp; omega]
    go_enter Tryz.func56, Tryz.ntmps56
    go_wp2
    go_ret
    exact ⟨rfl, rfl⟩
  · have z1 : (48 : Int) ≤ (c.toNat : Int) := by omega
    have z2 : ¬ (c.toNat : Int) ≤ 57 := by omega
    rw [show (decide (48 ≤ c.toNat) && decide (c.toNat ≤ 57)) = false by simp; omega]
    go_enter Tryz.func56, Tryz.ntmps56
    go_wp2
    go_ret
    exact ⟨rfl, rfl⟩
theorem ltr_cases (c : UInt8) : (c.toNat < 65 ∧ ltr c = false) ∨ ((65 ≤ c.toNat ∧ c.toNat ≤ 90) ∧ ltr c = true) ∨ ((90 < c.toNat ∧ c.toNat < 97) ∧ ltr c = false) ∨ ((97 ≤ c.toNat ∧ c.toNat ≤ 122) ∧ ltr c = true) ∨ (122 < c.toNat ∧ ltr c = false) := by
  unfold ltr
  rcases (show c.toNat < 65 ∨ (65 ≤ c.toNat ∧ c.toNat ≤ 90) ∨ (90 < c.toNat ∧ c.toNat < 97) ∨ (97 ≤ c.toNat ∧ c.toNat ≤ 122) ∨ 122 < c.toNat by omega) with h | h | h | h | h
  · exact .inl ⟨h, by simp; omega⟩
  · exact .inr (.inl ⟨h, by simp; omega⟩)
  · exact .inr (.inr (.inl ⟨h, by simp; omega⟩))
  · exact .inr (.inr (.inr (.inl ⟨h, by simp; omega⟩)))
  · exact .inr (.inr (.inr (.inr ⟨h, by simp; omega⟩)))
set_option maxHeartbeats 1000000 in
theorem isLetter_any (c : UInt8) (w : World) : Calls Tryz.prog 98 #[.int .u8 (c.toNat : Int)] w fun e w' => e = .returned (.bool (ltr c)) ∧ w = w' := by
  rcases ltr_cases c with ⟨h, e⟩ | ⟨h, e⟩ | ⟨h, e⟩ | ⟨h, e⟩ | ⟨h, e⟩ <;> rw [e] <;> clear e
  · have z1 : ¬ (65 : Int) ≤ (c.toNat : Int) := by omega
    have z3 : ¬ (97 : Int) ≤ (c.toNat : Int) := by omega
    go_enter Tryz.func98, Tryz.ntmps98
    go_wp2
    go_ret
    exact ⟨rfl, rfl⟩
  · have z1 : (65 : Int) ≤ (c.toNat : Int) := by omega
    have z2 : (c.toNat : Int) ≤ 90 := by omega
    go_enter Tryz.func98, Tryz.ntmps98
    go_wp2
    go_ret
    exact ⟨rfl, rfl⟩
  · have z1 : (65 : Int) ≤ (c.toNat : Int) := by omega
    have z2 : ¬ (c.toNat : Int) ≤ 90 := by omega
    have z3 : ¬ (97 : Int) ≤ (c.toNat : Int) := by omega
    go_enter Tryz.func98, Tryz.ntmps98
    go_wp2
    go_ret
    exact ⟨rfl, rfl⟩
  · have z1 : (65 : Int) ≤ (c.toNat : Int) := by omega
    have z2 : ¬ (c.toNat : Int) ≤ 90 := by omega
    have z3 : (97 : Int) ≤ (c.toNat : Int) := by omega
    have z4 : (c.toNat : Int) ≤ 122 := by omega
    go_enter Tryz.func98, Tryz.ntmps98
    go_wp2
    go_ret
    exact ⟨rfl, rfl⟩
  · have z1 : (65 : Int) ≤ (c.toNat : Int) := by omega
    have z2 : ¬ (c.toNat : Int) ≤ 90 := by omega
    have z3 : (97 : Int) ≤ (c.toNat : Int) := by omega
    have z4 : ¬ (c.toNat : Int) ≤ 122 := by omega
    go_enter Tryz.func98, Tryz.ntmps98
    go_wp2
    go_ret
    exact ⟨rfl, rfl⟩
set_option maxHeartbeats 1000000 in
theorem letter_any (c : UInt8) (w : World) : Calls Tryz.prog 75 #[.int .u8 (c.toNat : Int)] w fun e w' => e = .returned (.bool (ltr c)) ∧ w = w' := by
  rcases ltr_cases c with ⟨h, e⟩ | ⟨h, e⟩ | ⟨h, e⟩ | ⟨h, e⟩ | ⟨h, e⟩ <;> rw [e] <;> clear e
  · have z1 : ¬ (65 : Int) ≤ (c.toNat : Int) := by omega
    have z3 : ¬ (97 : Int) ≤ (c.toNat : Int) := by omega
    go_enter Tryz.func75, Tryz.ntmps75
    go_wp2
    go_ret
    exact ⟨rfl, rfl⟩
  · have z1 : (65 : Int) ≤ (c.toNat : Int) := by omega
    have z2 : (c.toNat : Int) ≤ 90 := by omega
    go_enter Tryz.func75, Tryz.ntmps75
    go_wp2
    go_ret
    exact ⟨rfl, rfl⟩
  · have z1 : (65 : Int) ≤ (c.toNat : Int) := by omega
    have z2 : ¬ (c.toNat : Int) ≤ 90 := by omega
    have z3 : ¬ (97 : Int) ≤ (c.toNat : Int) := by omega
    go_enter Tryz.func75, Tryz.ntmps75
    go_wp2
    go_ret
    exact ⟨rfl, rfl⟩
  · have z1 : (65 : Int) ≤ (c.toNat : Int) := by omega
    have z2 : ¬ (c.toNat : Int) ≤ 90 := by omega
    have z3 : (97 : Int) ≤ (c.toNat : Int) := by omega
    have z4 : (c.toNat : Int) ≤ 122 := by omega
    go_enter Tryz.func75, Tryz.ntmps75
    go_wp2
    go_ret
    exact ⟨rfl, rfl⟩
  · have z1 : (65 : Int) ≤ (c.toNat : Int) := by omega
    have z2 : ¬ (c.toNat : Int) ≤ 90 := by omega
    have z3 : (97 : Int) ≤ (c.toNat : Int) := by omega
    have z4 : ¬ (c.toNat : Int) ≤ 122 := by omega
    go_enter Tryz.func75, Tryz.ntmps75
    go_wp2
    go_ret
    exact ⟨rfl, rfl⟩
theorem sgn_cases (c : UInt8) : (((c.toNat : Int) == 95) = true ∧ ((c.toNat : Int) != 95) = false ∧ sgn c = true) ∨ (((c.toNat : Int) == 95) = false ∧ ((c.toNat : Int) != 95) = true ∧ ((c.toNat : Int) == 45) = true ∧ ((c.toNat : Int) != 45) = false ∧ sgn c = true) ∨ (((c.toNat : Int) == 95) = false ∧ ((c.toNat : Int) != 95) = true ∧ ((c.toNat : Int) == 45) = false ∧ ((c.toNat : Int) != 45) = true ∧ sgn c = false) := by
  unfold sgn
  rcases (show c.toNat = 95 ∨ c.toNat = 45 ∨ (c.toNat ≠ 95 ∧ c.toNat ≠ 45) by omega) with h | h | h
  · exact .inl (by rw [h]; decide)
  · exact .inr (.inl (by rw [h]; decide))
  · refine .inr (.inr ⟨?_, ?_, ?_, ?_, ?_⟩) <;> simp <;> omega
set_option maxHeartbeats 1000000 in
theorem isSign_any (c : UInt8) (w : World) : Calls Tryz.prog 97 #[.int .u8 (c.toNat : Int)] w fun e w' => e = .returned (.bool (sgn c)) ∧ w = w' := by
  rcases sgn_cases c with ⟨h, _, e⟩ | ⟨h1, _, h2, _, e⟩ | ⟨h1, _, h2, _, e⟩ <;> rw [e] <;> clear e
  all_goals
    go_enter Tryz.func97, Tryz.ntmps97
    go_wp2
    go_ret
    exact ⟨rfl, rfl⟩
theorem all_snoc (s : ByteArray) (k : Nat) (h : k < s.size) : (s.data.toList.take (k + 1)).all okC = ((s.data.toList.take k).all okC && okC s[k]) := by
  rw [List.take_succ_eq_append_getElem (by simpa using h), List.all_append]
  simp
  rfl
theorem all_bad (s : ByteArray) (k : Nat) (h : k < s.size) (hb : okC s[k] = false) : s.data.toList.all okC = false := by
  rw [List.all_eq_false]
  refine ⟨s[k], ?_, by simp [hb]⟩
  exact Array.mem_toList_iff.2 (Array.getElem_mem _)
theorem validC_no {s : ByteArray} (h : s.data.toList.all okC = false) : validC s.data.toList = false := by
  unfold validC
  split
  · rfl
  · rw [h, Bool.and_false]
theorem valid_big {s : ByteArray} (h : 16 < s.size) : validC s.data.toList = false := by
  rw [Lib.size_eq] at h
  unfold validC
  split
  · rfl
  · rw [decide_eq_false (by omega)]; rfl
theorem valid_sign {s : ByteArray} (h0 : 0 < s.size) (h : sgn s[0] = true) : validC s.data.toList = false := by
  unfold validC
  split
  · rfl
  · rename_i c r hs
    have : s[0] = c := by
      have : s.data.toList[0]? = some c := by rw [hs]; rfl
      rw [Lib.size_eq] at h0
      rw [List.getElem?_eq_getElem h0] at this
      exact Option.some.inj this
    rw [this] at h
    rw [h]
    simp
theorem valid_yes {s : ByteArray} (h0 : 0 < s.size) (h16 : s.size ≤ 16) (h : sgn s[0] = false) (ha : s.data.toList.all okC = true) : validC s.data.toList = true := by
  rw [Lib.size_eq] at h16
  unfold validC
  split
  · rename_i hs; rw [Lib.size_eq, hs] at h0; simp at h0
  · rename_i c r hs
    have : s[0] = c := by
      have : s.data.toList[0]? = some c := by rw [hs]; rfl
      rw [Lib.size_eq] at h0
      rw [List.getElem?_eq_getElem h0] at this
      exact Option.some.inj this
    rw [this] at h
    rw [h, ha, decide_eq_true h16]
    rfl
theorem okC_cases (x : UInt8) : (ltr x = true ∧ Hid (okC x = true)) ∨ (ltr x = false ∧ dg x = true ∧ Hid (okC x = true)) ∨ (ltr x = false ∧ dg x = false ∧ sgn x = true ∧ Hid (okC x = true)) ∨ (ltr x = false ∧ dg x = false ∧ sgn x = false ∧ Hid (okC x = false)) := by
  unfold okC
  cases h1 : ltr x
  · cases h2 : dg x
    · cases h3 : sgn x
      · exact .inr (.inr (.inr ⟨rfl, rfl, rfl, hid rfl⟩))
      · exact .inr (.inr (.inl ⟨rfl, rfl, rfl, hid rfl⟩))
    · exact .inr (.inl ⟨rfl, rfl, hid rfl⟩)
  · exact .inl ⟨rfl, hid rfl⟩
set_option maxHeartbeats 4000000 in
set_option maxRecDepth 100000 in
theorem valid_any (s : ByteArray) (w : World) : Calls Tryz.prog 72 #[.string s] w fun e w' => e = .returned (.bool (validC s.data.toList)) ∧ w = w' := by
  obtain ⟨ANS, hANS⟩ : ∃ ANS, validC s.data.toList = ANS := ⟨_, rfl⟩
  rw [hANS]
  by_cases h0 : 0 < s.size
  · have hne : s.data.toList ≠ [] := fun e => by rw [Lib.size_eq, e] at h0; simp at h0
    have t1 : (s.toList == []) = false := by rw [Lib.toList_data]; simpa using hne
    have t2 : (!s.toList.isEmpty) = true := by rw [Lib.toList_data]; simpa using hne
    by_cases h16 : 16 < s.size
    · have hA : ANS = false := by rw [← hANS]; exact valid_big h16
      have hz : (16 : Int) < (s.size : Int) := by omega
      have hzd : decide ((16 : Int) < (s.size : Int)) = true := decide_eq_true hz
      have HA := hid hA
      clear hne hANS hA
      go_enter Tryz.func72, Tryz.ntmps72
      go_wp2
      go_ret
      rw [HA.out]
      exact ⟨rfl, rfl⟩
    · have hz : ¬ (16 : Int) < (s.size : Int) := by omega
      have hzd : decide ((16 : Int) < (s.size : Int)) = false := decide_eq_false hz
      have cS := isSign_any (s[0]'h0)
      cases hs0 : sgn (s[0]'h0) with
      | true =>
        have hA : ANS = false := by rw [← hANS]; exact valid_sign h0 hs0
        have HA := hid hA
        rw [hs0] at cS
        obtain ⟨x, hx⟩ : ∃ x, s[0]'h0 = x := ⟨_, rfl⟩
        rw [hx] at cS
        clear hne hANS hA hs0
        go_enter Tryz.func72, Tryz.ntmps72
        go_wp2_with (go_at_call 97; refine (cS _).mono ?_; rintro e w' ⟨rfl, rfl⟩)
        go_ret
        rw [HA.out]
        exact ⟨rfl, rfl⟩
      | false =>
        rw [hs0] at cS
        have hA : s.data.toList.all okC = true → ANS = true := fun h => by rw [← hANS]; exact valid_yes h0 (by omega) hs0 h
        have hB : s.data.toList.all okC = false → ANS = false := fun h => by rw [← hANS]; exact validC_no h
        have HA := hid hA
        have HB := hid hB
        have CS := hid cS
        obtain ⟨x0, hx0⟩ : ∃ x, s[0]'h0 = x := ⟨_, rfl⟩
        rw [hx0] at CS
        clear hne hANS hA hB hs0 cS
        have cS := CS.out
        go_enter Tryz.func72, Tryz.ntmps72
        go_wp2_with (go_at_call 97; refine (cS _).mono ?_; rintro e w' ⟨rfl, rfl⟩)
        clear cS CS hx0
        go_loop [3, 18] (fun _ i => ∃ k : Nat, k ≤ s.size ∧ i = .int .i64 (k : Int) ∧ Hid ((s.data.toList.take k).all okC = true)) (fun _ i => s.size - (RowKit.intOf i).toNat)
        case atStart => exact ⟨0, Nat.zero_le _, rfl, hid rfl⟩
        case round =>
          obtain ⟨k, hk, rfl, hall⟩ := hrel
          by_cases hlt : k < s.size
          · have hltz : (k : Int) < (s.size : Int) := by omega
            have hsn := all_snoc s k hlt
            have hbad := all_bad s k hlt
            have cL := isLetter_any (s[k]'hlt)
            have cD := isDigit_any (s[k]'hlt)
            have cG := isSign_any (s[k]'hlt)
            obtain ⟨x, hx⟩ : ∃ x, s[k]'hlt = x := ⟨_, rfl⟩
            rw [hx] at hsn hbad cL cD cG
            have HSN := hid hsn
            have HBAD := hid hbad
            clear hsn hbad
            rcases okC_cases x with ⟨h1, ho⟩ | ⟨h1, h2, ho⟩ | ⟨h1, h2, h3, ho⟩ | ⟨h1, h2, h3, ho⟩
            · rw [h1] at cL
              clear h1 cD cG
              go_wp2_with (go_at_call 98; refine (cL _).mono ?_; rintro e w' ⟨rfl, rfl⟩)
              go_round
              case rel => exact ⟨k + 1, hlt, by go_num, by rw [HSN.out, hall.out, ho.out]; exact hid rfl⟩
              case measure => simp [RowKit.intOf]; omega
            · rw [h1] at cL
              rw [h2] at cD
              clear h1 h2 cG
              go_wp2_with (first | (go_at_call 98; refine (cL _).mono ?_; rintro e w' ⟨rfl, rfl⟩) | (go_at_call 99; refine (cD _).mono ?_; rintro e w' ⟨rfl, rfl⟩))
              go_round
              case rel => exact ⟨k + 1, hlt, by go_num, by rw [HSN.out, hall.out, ho.out]; exact hid rfl⟩
              case measure => simp [RowKit.intOf]; omega
            · rw [h1] at cL
              rw [h2] at cD
              rw [h3] at cG
              clear h1 h2 h3
              go_wp2_with (first | (go_at_call 98; refine (cL _).mono ?_; rintro e w' ⟨rfl, rfl⟩) | (go_at_call 99; refine (cD _).mono ?_; rintro e w' ⟨rfl, rfl⟩) | (go_at_call 97; refine (cG _).mono ?_; rintro e w' ⟨rfl, rfl⟩))
              go_round
              case rel => exact ⟨k + 1, hlt, by go_num, by rw [HSN.out, hall.out, ho.out]; exact hid rfl⟩
              case measure => simp [RowKit.intOf]; omega
            · rw [h1] at cL
              rw [h2] at cD
              rw [h3] at cG
              clear h1 h2 h3
              go_wp2_with (first | (go_at_call 98; refine (cL _).mono ?_; rintro e w' ⟨rfl, rfl⟩) | (go_at_call 99; refine (cD _).mono ?_; rintro e w' ⟨rfl, rfl⟩) | (go_at_call 97; refine (cG _).mono ?_; rintro e w' ⟨rfl, rfl⟩))
              go_ret
              rw [HB.out (HBAD.out ho.out)]
              exact ⟨rfl, rfl⟩
          · have hltz : ¬ (k : Int) < (s.size : Int) := by omega
            have hfull : Hid (s.data.toList.all okC = true) := by
              have := hall.out
              rw [List.take_of_length_le (by rw [← Lib.size_eq]; omega)] at this
              exact hid this
            go_wp2
            go_ret
            rw [HA.out hfull.out]
            exact ⟨rfl, rfl⟩
  · have hz : s.size = 0 := by omega
    have hsz := hz
    rw [Lib.size_eq] at hz
    have hnil : s.data.toList = [] := List.eq_nil_of_length_eq_zero hz
    have t1 : (s.toList == []) = true := by rw [Lib.toList_data, hnil]; rfl
    have t2 : s.toList = [] := by rw [Lib.toList_data, hnil]
    have hA : ANS = false := by rw [← hANS, hnil]; rfl
    have HA := hid hA
    clear hz hsz hnil hANS hA
    go_enter Tryz.func72, Tryz.ntmps72
    go_wp2
    go_ret
    rw [HA.out]
    exact ⟨rfl, rfl⟩
end Go.Proofs.YtlgmanbilaminaaGreatDoor.S3
