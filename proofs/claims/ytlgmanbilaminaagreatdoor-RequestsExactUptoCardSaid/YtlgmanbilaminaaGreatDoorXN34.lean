/-
  The merge of the library's stable sort, as mathematics: exchanged ranges as maps of places, what a merge leaves behind, blocks. No program. What the walks of .. Conditions: as stated.
-/
import Derived.Test.YtlgmanbilaminaaGreatDoorXN17
import Derived.Sort.WalkA
import Derived.Sort.LotA
import Derived.Shelf.SlSortCmp.Insertion
import Derived.Test.YtlgmanbilaminaaGreatDoorProg
import Derived.Shelf.SlSortCmp.KitK
import Derived.Lib.Hide
import Derived.Deep.LoopGhost
set_option linter.unusedVariables false
namespace Go.Proofs.YtlgmanbilaminaaGreatDoor.S12
open Go Go.Proofs Go.Sort
def exI (s m e t : Nat) : Nat := if s ≤ t ∧ t < s + (e - m) then t + (m - s) else if s + (e - m) ≤ t ∧ t < e then t - (e - m) else t
def swI (a b n t : Nat) : Nat := if a ≤ t ∧ t < a + n then t - a + b else if b ≤ t ∧ t < b + n then t - b + a else t
theorem swI_zero (a b t : Nat) : swI a b 0 t = t := by
  unfold swI
  rw [if_neg (by omega), if_neg (by omega)]
theorem exI_lt {s m e t N : Nat} (h1 : s ≤ m) (h2 : m ≤ e) (h3 : e ≤ N) (ht : t < N) : exI s m e t < N := by
  unfold exI
  split
  · omega
  · split <;> omega
theorem exI_in {s m e t a b : Nat} (h1 : s ≤ m) (h2 : m ≤ e) (ha : a ≤ s) (hb : e ≤ b) (h : a ≤ t) (h' : t < b) : a ≤ exI s m e t ∧ exI s m e t < b := by
  unfold exI
  split
  · omega
  · split <;> omega
theorem exI_out {s m e t a b : Nat} (h1 : s ≤ m) (h2 : m ≤ e) (ha : a ≤ s) (hb : e ≤ b) (h : ¬ (a ≤ t ∧ t < b)) : exI s m e t = t := by
  unfold exI
  rw [if_neg (by omega), if_neg (by omega)]
theorem exI_left (m e t : Nat) : exI m m e t = t := by
  unfold exI
  split
  · omega
  · split <;> omega
theorem exI_right (s m t : Nat) (h : s ≤ m) : exI s m m t = t := by
  unfold exI
  split
  · omega
  · split <;> omega
theorem rot_big {m i j : Nat} (t : Nat) (hij : j < i) (him : i ≤ m) : swI (m - i) m j (exI (m - (i - j)) m (m + j) t) = exI (m - i) m (m + j) t := by
  unfold exI swI
  (repeat' split) <;> omega
theorem rot_small {m i j : Nat} (t : Nat) (hij : i < j) (him : i ≤ m) : swI (m - i) (m + j - i) i (exI (m - i) m (m + (j - i)) t) = exI (m - i) m (m + j) t := by
  unfold exI swI
  (repeat' split) <;> omega
theorem rot_end {m i : Nat} (t : Nat) (him : i ≤ m) : swI (m - i) m i t = exI (m - i) m (m + i) t := by
  unfold exI swI
  (repeat' split) <;> omega
section
variable {α : Type} [Inhabited α]
theorem swI_step {d x : Array α} {a b n i : Nat} (hx : x.size = d.size) (hin : i < n) (hab : a + n ≤ b) (hb : b + n ≤ d.size) (h : ∀ t, t < d.size → x[t]! = d[swI a b i t]!) : ∀ t, t < d.size → (swp x (a + i) (b + i))[t]! = d[swI a b (i + 1) t]! := by
  intro t ht
  rw [swp_get x (by omega) (by omega), h _ ht, h (a + i) (by omega), h (b + i) (by omega)]
  by_cases c1 : t = b + i
  · rw [if_pos c1]
    congr 1
    unfold swI
    (repeat' split) <;> omega
  · by_cases c2 : t = a + i
    · rw [if_neg c1, if_pos c2]
      congr 1
      unfold swI
      (repeat' split) <;> omega
    · rw [if_neg c1, if_neg c2]
      congr 1
      unfold swI
      (repeat' split) <;> omega
theorem up_step {d x : Array α} {a k : Nat} (hx : x.size = d.size) (hak : a ≤ k) (hk : k + 1 < d.size) (h : ∀ t, t < d.size → x[t]! = d[exI a (a + 1) (k + 1) t]!) : ∀ t, t < d.size → (swp x k (k + 1))[t]! = d[exI a (a + 1) (k + 2) t]! := by
  intro t ht
  rw [swp_get x (by omega) (by omega), h _ ht, h k (by omega), h (k + 1) (by omega)]
  by_cases c1 : t = k + 1
  · rw [if_pos c1]
    congr 1
    unfold exI
    (repeat' split) <;> omega
  · by_cases c2 : t = k
    · rw [if_neg c1, if_pos c2]
      congr 1
      unfold exI
      (repeat' split) <;> omega
    · rw [if_neg c1, if_neg c2]
      congr 1
      unfold exI
      (repeat' split) <;> omega
theorem down_step {d x : Array α} {m k : Nat} (hx : x.size = d.size) (hkm : k + 1 ≤ m) (hm : m < d.size) (h : ∀ t, t < d.size → x[t]! = d[exI (k + 1) m (m + 1) t]!) : ∀ t, t < d.size → (swp x (k + 1) k)[t]! = d[exI k m (m + 1) t]! := by
  intro t ht
  rw [swp_get x (by omega) (by omega), h _ ht, h k (by omega), h (k + 1) (by omega)]
  by_cases c1 : t = k
  · rw [if_pos c1]
    congr 1
    unfold exI
    (repeat' split) <;> omega
  · by_cases c2 : t = k + 1
    · rw [if_neg c1, if_pos c2]
      congr 1
      unfold exI
      (repeat' split) <;> omega
    · rw [if_neg c1, if_neg c2]
      congr 1
      unfold exI
      (repeat' split) <;> omega
omit [Inhabited α] in
theorem exF_exI (f : Nat → α) (s m e t : Nat) : exF f s m e t = f (exI s m e t) := by
  unfold exF exI
  split
  · rfl
  · split <;> rfl
variable (key : α → Int)
structure MergeOut (a b : Nat) (d d' : Array α) : Prop where
  size : d'.size = d.size
  stab : StabR key d d'
  sorted : SortedK key a b d'
  out : ∀ t, t < d.size → ¬ (a ≤ t ∧ t < b) → d'[t]! = d[t]!
  inn : ∀ t, a ≤ t → t < b → ∃ u, a ≤ u ∧ u < b ∧ d'[t]! = d[u]!
variable {key}
theorem MergeOut.same {a b : Nat} {d : Array α} (h : SortedK key a b d) : MergeOut key a b d d := ⟨rfl, StabR.refl d, h, fun _ _ _ => rfl, fun t h1 h2 => ⟨t, h1, h2, rfl⟩⟩
theorem merge_ex {a s m e b : Nat} {d d' : Array α} (h1 : a ≤ s) (h2 : s ≤ m) (h3 : m ≤ e) (h4 : e ≤ b) (hb : b ≤ d.size) (hsz : d'.size = d.size) (hg : ∀ t, t < d.size → d'[t]! = d[exI s m e t]!)
    (hl : SortedK key a m d) (hr : SortedK key m b d) (hx : ∀ i j, s ≤ i → i < m → m ≤ j → j < e → key d[j]! < key d[i]!) :
    StabR key d d' ∧ (∀ t, t < d.size → ¬ (a ≤ t ∧ t < b) → d'[t]! = d[t]!) ∧ (∀ t, a ≤ t → t < b → ∃ u, a ≤ u ∧ u < b ∧ d'[t]! = d[u]!) ∧
    SortedK key a s d' ∧ SortedK key s (s + (e - m)) d' ∧ SortedK key (s + (e - m)) e d' ∧ SortedK key e b d' := by
  refine ⟨ex_stab h2 h3 (by omega) hsz (fun t ht => by rw [exF_exI]; exact hg t ht) hx, fun t ht hn => by rw [hg t ht, exI_out h2 h3 h1 h4 hn], fun t ha hb' => ⟨exI s m e t, (exI_in h2 h3 h1 h4 ha hb').1, (exI_in h2 h3 h1 h4 ha hb').2, hg t (by omega)⟩, ?_, ?_, ?_, ?_⟩
  · intro i j ha hij hj
    rw [hg i (by omega), hg j (by omega), show exI s m e i = i by unfold exI; rw [if_neg (by omega), if_neg (by omega)], show exI s m e j = j by unfold exI; rw [if_neg (by omega), if_neg (by omega)]]
    exact hl i j ha hij (by omega)
  · intro i j ha hij hj
    rw [hg i (by omega), hg j (by omega), show exI s m e i = i + (m - s) by unfold exI; rw [if_pos (by omega)], show exI s m e j = j + (m - s) by unfold exI; rw [if_pos (by omega)]]
    exact hr _ _ (by omega) (by omega) (by omega)
  · intro i j ha hij hj
    rw [hg i (by omega), hg j (by omega), show exI s m e i = i - (e - m) by unfold exI; rw [if_neg (by omega), if_pos (by omega)], show exI s m e j = j - (e - m) by unfold exI; rw [if_neg (by omega), if_pos (by omega)]]
    exact hl _ _ (by omega) (by omega) (by omega)
  · intro i j ha hij hj
    rw [hg i (by omega), hg j (by omega), show exI s m e i = i by unfold exI; rw [if_neg (by omega), if_neg (by omega)], show exI s m e j = j by unfold exI; rw [if_neg (by omega), if_neg (by omega)]]
    exact hr i j (by omega) hij hj
theorem merge_across {a s m e b : Nat} {d d' : Array α} (h1 : a ≤ s) (h2 : s ≤ m) (h3 : m ≤ e) (h4 : e ≤ b) (hb : b ≤ d.size) (hg : ∀ t, t < d.size → d'[t]! = d[exI s m e t]!)
    (hl : SortedK key a m d) (hr : SortedK key m b d) (hx : ∀ i j, s ≤ i → i < m → m ≤ j → j < e → key d[j]! < key d[i]!) (hy : ∀ i j, a ≤ i → i < s → e ≤ j → j < b → key d[i]! ≤ key d[j]!) :
    ∀ i j, a ≤ i → i < s + (e - m) → s + (e - m) ≤ j → j < b → key d'[i]! ≤ key d'[j]! := by
  intro i j ha hi hj hjb
  rw [hg i (by omega), hg j (by omega)]
  by_cases c1 : i < s
  · rw [show exI s m e i = i by unfold exI; rw [if_neg (by omega), if_neg (by omega)]]
    by_cases c2 : j < e
    · rw [show exI s m e j = j - (e - m) by unfold exI; rw [if_neg (by omega), if_pos (by omega)]]
      exact hl _ _ ha (by omega) (by omega)
    · rw [show exI s m e j = j by unfold exI; rw [if_neg (by omega), if_neg (by omega)]]
      exact hy i j ha c1 (by omega) hjb
  · rw [show exI s m e i = i + (m - s) by unfold exI; rw [if_pos (by omega)]]
    by_cases c2 : j < e
    · rw [show exI s m e j = j - (e - m) by unfold exI; rw [if_neg (by omega), if_pos (by omega)]]
      exact Int.le_of_lt (hx _ _ (by omega) (by omega) (by omega) (by omega))
    · rw [show exI s m e j = j by unfold exI; rw [if_neg (by omega), if_neg (by omega)]]
      exact hr _ _ (by omega) (by omega) hjb
theorem SortedK.join {a q b : Nat} {d : Array α} (h1 : SortedK key a q d) (h2 : SortedK key q b d) (h : ∀ i j, a ≤ i → i < q → q ≤ j → j < b → key d[i]! ≤ key d[j]!) : SortedK key a b d := fun i j ha hij hj => by
  by_cases c : j < q
  · exact h1 i j ha hij c
  · by_cases c2 : i < q
    · exact h i j ha c2 (by omega) hj
    · exact h2 i j (by omega) hij hj
theorem SortedK.one {a b : Nat} {d : Array α} (h : b ≤ a + 1) : SortedK key a b d := fun i j ha hij hj => by omega
theorem SortedK.congr {a b : Nat} {d d' : Array α} (h : SortedK key a b d) (he : ∀ t, a ≤ t → t < b → d'[t]! = d[t]!) : SortedK key a b d' := fun i j ha hij hj => by
  rw [he i ha (by omega), he j (by omega) hj]
  exact h i j ha hij hj
theorem merge_up {a e b : Nat} {d d' : Array α} (h3 : a + 1 ≤ e) (h4 : e ≤ b) (hb : b ≤ d.size) (hsz : d'.size = d.size) (hg : ∀ t, t < d.size → d'[t]! = d[exI a (a + 1) e t]!)
    (hr : SortedK key (a + 1) b d) (hx : ∀ j, a + 1 ≤ j → j < e → key d[j]! < key d[a]!) (hy : ∀ j, e ≤ j → j < b → key d[a]! ≤ key d[j]!) : MergeOut key a b d d' := by
  have hx' : ∀ i j, a ≤ i → i < a + 1 → a + 1 ≤ j → j < e → key d[j]! < key d[i]! := fun i j i1 i2 j1 j2 => by
    obtain rfl : i = a := by omega
    exact hx j j1 j2
  obtain ⟨g1, g2, g3, _, g5, g6, g7⟩ := merge_ex (key := key) (Nat.le_refl a) (Nat.le_succ a) h3 h4 hb hsz hg (SortedK.one (Nat.le_refl _)) hr hx'
  have ac := merge_across (key := key) (Nat.le_refl a) (Nat.le_succ a) h3 h4 hb hg (SortedK.one (Nat.le_refl _)) hr hx' (fun i j i1 i2 => by omega)
  refine ⟨hsz, g1, SortedK.join (q := a + (e - (a + 1))) g5 (SortedK.join (q := e) g6 g7 (fun i j i1 i2 j1 j2 => ?_)) (fun i j i1 i2 j1 j2 => ac i j i1 i2 j1 j2), g2, g3⟩
  rw [hg i (by omega), hg j (by omega), show exI a (a + 1) e j = j by unfold exI; rw [if_neg (by omega), if_neg (by omega)], show exI a (a + 1) e i = a by unfold exI; rw [if_neg (by omega), if_pos (by omega)]; omega]
  exact hy j j1 j2
theorem merge_down {a s m : Nat} {d d' : Array α} (h1 : a ≤ s) (h2 : s ≤ m) (hb : m + 1 ≤ d.size) (hsz : d'.size = d.size) (hg : ∀ t, t < d.size → d'[t]! = d[exI s m (m + 1) t]!)
    (hl : SortedK key a m d) (hx : ∀ i, s ≤ i → i < m → key d[m]! < key d[i]!) (hy : ∀ i, a ≤ i → i < s → key d[i]! ≤ key d[m]!) : MergeOut key a (m + 1) d d' := by
  have hx' : ∀ i j, s ≤ i → i < m → m ≤ j → j < m + 1 → key d[j]! < key d[i]! := fun i j i1 i2 j1 j2 => by
    obtain rfl : j = m := by omega
    exact hx i i1 i2
  obtain ⟨g1, g2, g3, g4, g5, g6, g7⟩ := merge_ex (key := key) h1 h2 (Nat.le_succ m) (Nat.le_refl (m + 1)) hb hsz hg hl (SortedK.one (Nat.le_refl _)) hx'
  have ac := merge_across (key := key) h1 h2 (Nat.le_succ m) (Nat.le_refl (m + 1)) hb hg hl (SortedK.one (Nat.le_refl _)) hx' (fun i j i1 i2 j1 j2 => by omega)
  refine ⟨hsz, g1, SortedK.join (q := s + (m + 1 - m)) (SortedK.join (q := s) g4 g5 (fun i j i1 i2 j1 j2 => ?_)) (SortedK.join (q := m + 1) g6 g7 (fun i j i1 i2 j1 j2 => by omega)) (fun i j i1 i2 j1 j2 => ac i j i1 i2 j1 j2), g2, g3⟩
  rw [hg i (by omega), hg j (by omega), show exI s m (m + 1) i = i by unfold exI; rw [if_neg (by omega), if_neg (by omega)], show exI s m (m + 1) j = m by unfold exI; rw [if_pos (by omega)]; omega]
  exact hy i i1 i2
theorem merge_both {a q b : Nat} {d d1 d2 d3 : Array α} (hq : a ≤ q) (hqb : q ≤ b) (hb : b ≤ d.size) (hsz : d1.size = d.size) (h1 : StabR key d d1) (ho : ∀ t, t < d.size → ¬ (a ≤ t ∧ t < b) → d1[t]! = d[t]!) (hi : ∀ t, a ≤ t → t < b → ∃ u, a ≤ u ∧ u < b ∧ d1[t]! = d[u]!)
    (hac : ∀ i j, a ≤ i → i < q → q ≤ j → j < b → key d1[i]! ≤ key d1[j]!) (m1 : MergeOut key a q d1 d2) (m2 : MergeOut key q b d2 d3) : MergeOut key a b d d3 := by
  have s2 := m1.size
  have s3 := m2.size
  refine ⟨by omega, (h1.trans m1.stab).trans m2.stab, SortedK.join (q := q) (m1.sorted.congr (fun t t1 t2 => m2.out t (by omega) (by omega))) m2.sorted (fun i j i1 i2 j1 j2 => ?_), fun t ht hn => ?_, fun t t1 t2 => ?_⟩
  · rw [m2.out i (by omega) (by omega)]
    obtain ⟨u, u1, u2, u3⟩ := m1.inn i i1 i2
    obtain ⟨v, v1, v2, v3⟩ := m2.inn j j1 j2
    rw [u3, v3, m1.out v (by omega) (by omega)]
    exact hac u v u1 u2 v1 v2
  · rw [m2.out t (by omega) (by omega), m1.out t (by omega) (by omega), ho t ht hn]
  · by_cases c : t < q
    · rw [m2.out t (by omega) (by omega)]
      obtain ⟨u, u1, u2, u3⟩ := m1.inn t t1 c
      obtain ⟨v, v1, v2, v3⟩ := hi u u1 (by omega)
      exact ⟨v, v1, v2, by rw [u3, v3]⟩
    · obtain ⟨u, u1, u2, u3⟩ := m2.inn t (by omega) t2
      obtain ⟨v, v1, v2, v3⟩ := hi u (by omega) u2
      exact ⟨v, v1, v2, by rw [u3, m1.out u (by omega) (by omega), v3]⟩
structure Found (key : α → Int) (d : Array α) (a m b mid start : Nat) : Prop where
  lo : a ≤ start
  hi : start ≤ m
  md : start ≤ mid
  top : mid + m - start ≤ b
  bot : m ≤ mid + m - start
  lt : start < m → m < mid + m - start → key d[mid + m - 1 - start]! < key d[start]!
  le : a < start → mid + m - start < b → key d[start - 1]! ≤ key d[mid + m - start]!
theorem Found.x {d : Array α} {a m b mid start : Nat} (h : Found key d a m b mid start) (hl : SortedK key a m d) (hr : SortedK key m b d) : ∀ i j, start ≤ i → i < m → m ≤ j → j < mid + m - start → key d[j]! < key d[i]! := by
  intro i j i1 i2 j1 j2
  have l1 := h.lo
  have l2 := h.top
  have l3 := h.md
  have l := h.lt (by omega) (by omega)
  have e1 : key d[start]! ≤ key d[i]! := by
    by_cases c : start = i
    · rw [c]; exact Int.le_refl _
    · exact hl _ _ l1 (by omega) i2
  have e2 : key d[j]! ≤ key d[mid + m - 1 - start]! := by
    by_cases c : j = mid + m - 1 - start
    · rw [← c]; exact Int.le_refl _
    · exact hr _ _ j1 (by omega) (by omega)
  omega
theorem Found.y {d : Array α} {a m b mid start : Nat} (h : Found key d a m b mid start) (hl : SortedK key a m d) (hr : SortedK key m b d) : ∀ i j, a ≤ i → i < start → mid + m - start ≤ j → j < b → key d[i]! ≤ key d[j]! := by
  intro i j i1 i2 j1 j2
  have l1 := h.lo
  have l2 := h.bot
  have l3 := h.hi
  have l := h.le (by omega) (by omega)
  have e1 : key d[i]! ≤ key d[start - 1]! := by
    by_cases c : i = start - 1
    · rw [← c]; exact Int.le_refl _
    · exact hl _ _ i1 (by omega) (by omega)
  have e2 : key d[mid + m - start]! ≤ key d[j]! := by
    by_cases c : mid + m - start = j
    · rw [c]; exact Int.le_refl _
    · exact hr _ _ (by omega) (by omega) j2
  omega
theorem merge_turn {d d1 : Array α} {a m b mid start : Nat} (h : Found key d a m b mid start) (hb : b ≤ d.size) (hl : SortedK key a m d) (hr : SortedK key m b d) (hsz : d1.size = d.size) (hg : ∀ t, t < d.size → d1[t]! = d[exI start m (mid + m - start) t]!) :
    SortedK key a start d1 ∧ SortedK key start mid d1 ∧ SortedK key mid (mid + m - start) d1 ∧ SortedK key (mid + m - start) b d1 ∧ ∀ d2 d3, MergeOut key a mid d1 d2 → MergeOut key mid b d2 d3 → MergeOut key a b d d3 := by
  have l1 := h.lo
  have l2 := h.hi
  have l3 := h.md
  have l4 := h.top
  have l5 := h.bot
  obtain ⟨g1, g2, g3, g4, g5, g6, g7⟩ := merge_ex (key := key) l1 l2 l5 l4 hb hsz hg hl hr (h.x hl hr)
  have ac := merge_across (key := key) l1 l2 l5 l4 hb hg hl hr (h.x hl hr) (h.y hl hr)
  have em : start + (mid + m - start - m) = mid := by omega
  rw [em] at g5 g6 ac
  exact ⟨g4, g5, g6, g7, fun d2 d3 m1 m2 => merge_both (by omega) (by omega) hb hsz g1 g2 g3 ac m1 m2⟩
theorem found_of {d : Array α} {a m b mid s0 r0 st : Nat} (hmid : mid = (a + b) / 2) (am : a < m) (mb : m < b) (hs : (mid < m ∧ s0 = mid + m - b ∧ r0 = mid) ∨ (m ≤ mid ∧ s0 = a ∧ r0 = m)) (h1 : s0 ≤ st) (h2 : st ≤ r0)
    (hlt : st = r0 ∨ key d[mid + m - 1 - st]! < key d[st]!) (hle : st = s0 ∨ key d[st - 1]! ≤ key d[mid + m - st]!) : Found key d a m b mid st := by
  refine ⟨by omega, by omega, by omega, by omega, by omega, fun h3 h4 => ?_, fun h3 h4 => ?_⟩
  · rcases hlt with h | h
    · omega
    · exact h
  · rcases hle with h | h
    · omega
    · exact h
def BlocksK (key : α → Int) (s n : Nat) (d : Array α) : Prop := ∀ q, SortedK key (q * s) (min (q * s + s) n) d
def HalfK (key : α → Int) (s n k : Nat) (d : Array α) : Prop := (∀ q, q < k → SortedK key (q * (2 * s)) (q * (2 * s) + 2 * s) d) ∧ ∀ q, 2 * k ≤ q → SortedK key (q * s) (min (q * s + s) n) d
theorem half_start {s n : Nat} {d : Array α} (h : BlocksK key s n d) : HalfK key s n 0 d := ⟨fun q hq => absurd hq (Nat.not_lt_zero _), fun q _ => h q⟩
theorem dbl_mul (k s : Nat) : 2 * k * s = k * (2 * s) := by rw [Nat.mul_comm 2 k, Nat.mul_assoc]
theorem half_pre {s n k : Nat} {d : Array α} (h : HalfK key s n k d) : SortedK key (k * (2 * s)) (min (k * (2 * s) + s) n) d ∧ SortedK key (k * (2 * s) + s) (min (k * (2 * s) + 2 * s) n) d := by
  have h0 := h.2 (2 * k) (Nat.le_refl _)
  have h1 := h.2 (2 * k + 1) (by omega)
  rw [Nat.add_mul, dbl_mul, Nat.one_mul] at h1
  rw [dbl_mul] at h0
  exact ⟨h0, by rw [show k * (2 * s) + 2 * s = k * (2 * s) + s + s by omega]; exact h1⟩
theorem pair_le {q k S : Nat} (h : q < k) : q * S + S ≤ k * S := by
  have := Nat.mul_le_mul_right S (show q + 1 ≤ k from h)
  rwa [Nat.add_mul, Nat.one_mul] at this
theorem half_step {s n k : Nat} {d d' : Array α} (h : HalfK key s n k d) (hn : n = d.size) (hk : k * (2 * s) + 2 * s ≤ n) (hm : MergeOut key (k * (2 * s)) (k * (2 * s) + 2 * s) d d') : HalfK key s n (k + 1) d' := by
  refine ⟨fun q hq => ?_, fun q hq => ?_⟩
  · by_cases c : q = k
    · subst c
      exact hm.sorted
    · have := pair_le (q := q) (k := k) (S := 2 * s) (by omega)
      exact (h.1 q (by omega)).congr (fun t t1 t2 => hm.out t (by omega) (by omega))
  · have h2 := h.2 q (by omega)
    have := Nat.mul_le_mul_right s (show 2 * k + 2 ≤ q by omega)
    rw [Nat.add_mul, dbl_mul] at this
    exact h2.congr (fun t t1 t2 => hm.out t (by omega) (by omega))
theorem half_end {s n k : Nat} {d d' : Array α} (h : HalfK key s n k d) (hn : n = d.size) (hk : n < k * (2 * s) + 2 * s) (ha : k * (2 * s) ≤ n) (hm : MergeOut key (k * (2 * s)) n d d') : BlocksK key (2 * s) n d' := by
  intro q
  by_cases c : q < k
  · have := pair_le (q := q) (k := k) (S := 2 * s) c
    rw [Nat.min_eq_left (by omega)]
    exact (h.1 q c).congr (fun t t1 t2 => hm.out t (by omega) (by omega))
  · by_cases c2 : q = k
    · subst c2
      rw [Nat.min_eq_right (by omega)]
      exact hm.sorted
    · have := pair_le (q := k) (k := q) (S := 2 * s) (by omega)
      exact fun i j i1 i2 i3 => by omega
theorem blocks_all {s n : Nat} {d : Array α} (h : BlocksK key s n d) (hs : n ≤ s) : SortedK key 0 n d := by
  have := h 0
  rw [Nat.zero_mul, Nat.min_eq_right (by omega)] at this
  exact this
theorem blocks_first {n k : Nat} {d d' : Array α} (hn : n = d.size) (h : ∀ q, q < k → SortedK key (q * 20) (q * 20 + 20) d) (ha : k * 20 ≤ n) (hk : n < k * 20 + 20) (hs : SortedK key (k * 20) n d') (ho : ∀ t, t < k * 20 → d'[t]! = d[t]!) : BlocksK key 20 n d' := by
  intro q
  by_cases c : q < k
  · rw [Nat.min_eq_left (by omega)]
    exact (h q c).congr (fun t t1 t2 => ho t (by omega))
  · by_cases c2 : q = k
    · subst c2
      rw [Nat.min_eq_right (by omega)]
      exact hs
    · exact fun i j i1 i2 i3 => by omega
end
end Go.Proofs.YtlgmanbilaminaaGreatDoor.S12
set_option linter.unusedVariables false
namespace Go.Proofs.YtlgmanbilaminaaGreatDoor.S12
open Go Go.Proofs Go.RowKit Go.Lib Go.Sort Go.Shelf Go.Proofs.YtlgmanbilaminaaGreatDoor
structure PK (P : Program) (k : Nat) : Prop where
  mixed : P.follows .mixedOrders = true
  t3 : P.underlying 3 = some (TypeDesc.int IntKind.i64)
  a3 : ∀ w, (isAgg 3).run P w = .ok false w
  z3 : ∀ w, (Go.sizeOf 3).run P w = .ok 1 w
  v3 : ∀ w, (zeroValue 3).run P w = .ok (Value.int IntKind.i64 0) w
  t4 : P.underlying 4 = some TypeDesc.bool
  a4 : ∀ w, (isAgg 4).run P w = .ok false w
  z4 : ∀ w, (Go.sizeOf 4).run P w = .ok 1 w
  v4 : ∀ w, (zeroValue 4).run P w = .ok (Value.bool false) w
  t22 : P.underlying 22 = some (TypeDesc.slice 61)
  a22 : ∀ w, (isAgg 22).run P w = .ok false w
  z22 : ∀ w, (Go.sizeOf 22).run P w = .ok 1 w
  v22 : ∀ w, (zeroValue 22).run P w = .ok (Value.slice none 0 0) w
  t123 : P.underlying 123 = some (TypeDesc.int IntKind.u64)
  a123 : ∀ w, (isAgg 123).run P w = .ok false w
  z123 : ∀ w, (Go.sizeOf 123).run P w = .ok 1 w
  a85 : ∀ w, (isAgg 85).run P w = .ok false w
  z85 : ∀ w, (Go.sizeOf 85).run P w = .ok 1 w
  aE : ∀ w, (isAgg 61).run P w = .ok true w
  zE : ∀ w, (Go.sizeOf 61).run P w = .ok k w
theorem pk : PK Tryz.prog 4 := ⟨by kernel_rfl, Tryz.underlying3, Tryz.isAgg3, Tryz.sizeOf3, Tryz.zeroValue3, Tryz.underlying4, Tryz.isAgg4, Tryz.sizeOf4, Tryz.zeroValue4, Tryz.underlying22, Tryz.isAgg22, Tryz.sizeOf22, Tryz.zeroValue22, Tryz.underlying123, Tryz.isAgg123, Tryz.sizeOf123, Tryz.isAgg85, Tryz.sizeOf85, Tryz.isAgg61, Tryz.sizeOf61⟩
end Go.Proofs.YtlgmanbilaminaaGreatDoor.S12
set_option linter.unusedVariables false
namespace Go.Proofs.YtlgmanbilaminaaGreatDoor.S12
open Go Go.Proofs Go.RowKit Go.Lib Go.Sort Go.Shelf Go.Proofs.YtlgmanbilaminaaGreatDoor
variable {P : Program} {k : Nat} {α : Type} [Inhabited α] {enc : α → List Value} {key : α → Int} {blk off : Nat} {d0 : Array α} {w0 : World}
set_option maxHeartbeats 4000000 in
set_option maxRecDepth 1000000 in
theorem swapRange_k (K : PK P k) (F : P.funcs[159]? = some Tryz.f159) (g : Nat) (cb : Array Value) (cap a b n : Nat) (d : Array α) (w : World) (R : RowK enc k w0 blk off d0) (hs : d0.size = d.size) (S : SWK enc k w0 blk off d w) (hab : a + n ≤ b) (hb : b + n ≤ d.size) (hsz : d.size < 1152921504606846976) :
    Calls P 159 #[.slice (some ⟨blk, off, none⟩) d.size cap, .int .i64 a, .int .i64 b, .int .i64 n, .func (.func g) #[] cb] w fun e w' => e = .returned (.tuple #[]) ∧ ∃ d', d'.size = d.size ∧ (∀ t, t < d.size → d'[t]! = d[swI a b n t]!) ∧ SWK enc k w0 blk off d' w' := by
  have mixed := K.mixed; have t3 := K.t3; have a3 := K.a3; have z3 := K.z3; have v3 := K.v3; have t4 := K.t4; have a4 := K.a4; have z4 := K.z4; have v4 := K.v4; have t22 := K.t22; have a22 := K.a22; have z22 := K.z22; have v22 := K.v22; have t123 := K.t123; have a123 := K.a123; have z123 := K.z123; have a85 := K.a85; have z85 := K.z85; have aE := K.aE; have zE := K.zE; have u3 := run_underlying K.t3; have u22 := run_underlying K.t22; have u123 := run_underlying K.t123
  have S0 : Aside (SWK enc k w0 blk off d w) := S
  clear S
  go_enter F, Tryz.ntmps159
  go_wp2
  go_loopg [10] n (fun kx s10 wr => ∃ (i : Nat) (dk : Array α), s10 = .int .i64 i ∧ i ≤ n ∧ n - i ≤ kx ∧ dk.size = d.size ∧ Aside (SWK enc k w0 blk off dk wr) ∧ Hid (∀ t, t < d.size → dk[t]! = d[swI a b i t]!))
  case atStart => exact ⟨0, d, rfl, Nat.zero_le _, by omega, rfl, S0, fun t _ => by rw [swI_zero]⟩
  case round =>
    clear S0
    obtain ⟨i, dk, rfl, hi, hkx, hds, S1, HD⟩ := hrel
    by_cases hlt : i < n
    · have hltz : (i : Int) < (n : Int) := by omega
      go_wp2_with fail
      have ea44 : ((a : Int) + (i : Int)).toNat = a + i := by omega
      have pa44 : (0 : Int) ≤ (a : Int) + (i : Int) := by omega
      have ba44 : (a : Int) + (i : Int) < (d.size : Int) := by omega
      have ra44 : IntKind.i64.wrap ((a : Int) + (i : Int)) = (a : Int) + (i : Int) := by rw [IntKind.wrap_i64]; omega
      have ec44 : ((b : Int) + (i : Int)).toNat = b + i := by omega
      have pc44 : (0 : Int) ≤ (b : Int) + (i : Int) := by omega
      have bc44 : (b : Int) + (i : Int) < (d.size : Int) := by omega
      have rc44 : IntKind.i64.wrap ((b : Int) + (i : Int)) = (b : Int) + (i : Int) := by rw [IntKind.wrap_i64]; omega
      have S2 : Aside (SWK enc k w0 blk off (swp dk (a + i) (b + i)) ((wr.drew.setCells blk (off + (a + i) * k) (enc dk[b + i]!)).setCells blk (off + (b + i) * k) (enc dk[a + i]!))) := S1.out.swapped R (a + i) (b + i) (by omega) (by omega)
      have l44a := S1.out.ld1 R (by omega) P (a + i) (by omega)
      have l44b := S1.out.ld1 R (by omega) P (b + i) (by omega)
      have s44a := S1.out.st1 R (by omega) P (a + i) (by omega) dk[b + i]!
      have s44b := S1.out.st2 R (by omega) P (a + i) (b + i) (by omega) (by omega) dk[b + i]! dk[a + i]!
      have n44a : (enc dk[a + i]!).length = k := R.hk _
      have n44b : (enc dk[b + i]!).length = k := R.hk _
      generalize enc dk[a + i]! = cI44 at S2 l44a s44b n44a
      generalize enc dk[b + i]! = cJ44 at S2 l44b s44a s44b n44b
      clear S1
      go_wp2_with fail
      go_big_region_o
      clear l44a l44b s44a s44b
      generalize (wr.drew.setCells blk (off + (a + i) * k) cJ44).setCells blk (off + (b + i) * k) cI44 = w2 at S2 ⊢
      go_wp2
      go_roundg (n - (i + 1))
      case measure => omega
      case rel => exact ⟨i + 1, swp dk (a + i) (b + i), by go_num, by omega, Nat.le_refl _, by rw [size_swp]; exact hds, S2, swI_step hds hlt hab hb HD.out⟩
    · have hltz : ¬ (i : Int) < (n : Int) := by omega
      obtain rfl : n = i := by omega
      go_wp2
      go_end0
      exact ⟨rfl, dk, hds, HD.out, S1.out⟩
set_option maxHeartbeats 4000000 in
set_option maxRecDepth 1000000 in
theorem rotate_k (K : PK P k) (FS : P.funcs[159]? = some Tryz.f159) (F : P.funcs[139]? = some Tryz.f139) (g : Nat) (cb : Array Value) (cap a m b : Nat) (d : Array α) (w : World) (R : RowK enc k w0 blk off d0) (hs : d0.size = d.size) (S : SWK enc k w0 blk off d w) (ham : a < m) (hmb : m < b) (hb : b ≤ d.size) (hsz : d.size < 1152921504606846976) :
    Calls P 139 #[.slice (some ⟨blk, off, none⟩) d.size cap, .int .i64 a, .int .i64 m, .int .i64 b, .func (.func g) #[] cb] w fun e w' => e = .returned (.tuple #[]) ∧ ∃ d', d'.size = d.size ∧ (∀ t, t < d.size → d'[t]! = d[exI a m b t]!) ∧ SWK enc k w0 blk off d' w' := by
  have mixed := K.mixed; have t3 := K.t3; have a3 := K.a3; have z3 := K.z3; have v3 := K.v3; have t4 := K.t4; have a4 := K.a4; have z4 := K.z4; have v4 := K.v4; have t22 := K.t22; have a22 := K.a22; have z22 := K.z22; have v22 := K.v22; have t123 := K.t123; have a123 := K.a123; have z123 := K.z123; have a85 := K.a85; have z85 := K.z85; have aE := K.aE; have zE := K.zE; have u3 := run_underlying K.t3; have u22 := run_underlying K.t22; have u123 := run_underlying K.t123
  have eS : ∀ args w, (callFunc 159 args).run P w = .ok (.enter 159 args) w := enters_of FS (by kernel_rfl) rfl
  have S0 : Aside (SWK enc k w0 blk off d w) := S
  have K0 := hid K
  clear S
  go_enter F, Tryz.ntmps139
  go_wp2
  go_loopg [10, 11] (b - a) (fun kx s10 s11 wr => ∃ (i j : Nat) (dk : Array α), s10 = .int .i64 i ∧ s11 = .int .i64 j ∧ 0 < i ∧ 0 < j ∧ i ≤ m - a ∧ j ≤ b - m ∧ i + j ≤ kx ∧ dk.size = d.size ∧ Aside (SWK enc k w0 blk off dk wr) ∧ Hid (∀ t, t < d.size → dk[exI (m - i) m (m + j) t]! = d[exI a m b t]!))
  case atStart => exact ⟨m - a, b - m, d, by congr 1; omega, by congr 1; omega, by omega, by omega, Nat.le_refl _, Nat.le_refl _, by omega, rfl, S0, (show Hid _ from fun t _ => by rw [show m - (m - a) = a by omega, show m + (b - m) = b by omega])⟩
  case round =>
    clear S0
    obtain ⟨i, j, dk, rfl, rfl, hi0, hj0, hi, hj, hkx, hds, S1, HD⟩ := hrel
    by_cases hij : i = j
    · subst hij
      have hc := swapRange_k K0.out FS g cb cap (m - i) m i dk wr R (by omega) S1.out (by omega) (by omega) (by omega)
      rw [show ((m - i : Nat) : Int) = (m : Int) - (i : Int) by omega, hds] at hc
      go_wp2_with (go_at_fn (159); refine hc.mono ?_; rintro e w1 ⟨rfl, d1, hd1, hd2, S2⟩)
      go_end0
      exact ⟨rfl, d1, hd1, fun t ht => by rw [hd2 t ht, rot_end t (by omega)]; exact HD.out t ht, S2⟩
    · have hne : ¬ (i : Int) = (j : Int) := by omega
      by_cases hlt : j < i
      · have hltz : (j : Int) < (i : Int) := by omega
        have hc := swapRange_k K0.out FS g cb cap (m - i) m j dk wr R (by omega) S1.out (by omega) (by omega) (by omega)
        rw [show ((m - i : Nat) : Int) = (m : Int) - (i : Int) by omega, hds] at hc
        go_wp2_with (go_at_fn (159); refine hc.mono ?_; rintro e w1 ⟨rfl, d1, hd1, hd2, S2⟩)
        go_roundg (i - j + j)
        case measure => omega
        case rel => exact ⟨i - j, j, d1, by congr 1; omega, rfl, by omega, hj0, by omega, hj, Nat.le_refl _, hd1, S2, (show Hid _ from fun t ht => by rw [hd2 _ (exI_lt (by omega) (by omega) (by omega) ht), rot_big t hlt (by omega)]; exact HD.out t ht)⟩
      · have hltz : ¬ (j : Int) < (i : Int) := by omega
        have hc := swapRange_k K0.out FS g cb cap (m - i) (m + j - i) i dk wr R (by omega) S1.out (by omega) (by omega) (by omega)
        rw [show ((m - i : Nat) : Int) = (m : Int) - (i : Int) by omega, show ((m + j - i : Nat) : Int) = (m : Int) + (j : Int) - (i : Int) by omega, hds] at hc
        go_wp2_with (go_at_fn (159); refine hc.mono ?_; rintro e w1 ⟨rfl, d1, hd1, hd2, S2⟩)
        go_roundg (i + (j - i))
        case measure => omega
        case rel => exact ⟨i, j - i, d1, rfl, by congr 1; omega, hi0, by omega, hi, by omega, Nat.le_refl _, hd1, S2, (show Hid _ from fun t ht => by rw [hd2 _ (exI_lt (by omega) (by omega) (by omega) ht), rot_small t (by omega) (by omega)]; exact HD.out t ht)⟩
end Go.Proofs.YtlgmanbilaminaaGreatDoor.S12
