/-
  Stable order, as mathematics: of a list by a number, of arrays whose parts are exchanged. No program.
-/
import Derived.Sort.WalkA
import Derived.Sort.LotA
import Derived.Shelf.SlSortCmp.Insertion
set_option linter.unusedVariables false
namespace Go.Proofs.YtlgmanbilaminaaGreatDoor.S12
open Go Go.Proofs Go.Sort
section
variable {α : Type} [Inhabited α] (key : α → Int)
def Stab (l l' : List α) : Prop := (∀ p : Int, l'.filter (fun x => decide (key x = p)) = l.filter (fun x => decide (key x = p))) ∧ l'.Pairwise (fun a b => key a ≤ key b)
variable {key}
omit [Inhabited α] in
theorem Stab.nil : Stab key [] [] := ⟨fun _ => rfl, List.Pairwise.nil⟩
omit [Inhabited α] in
theorem stab_unique : ∀ {a b : List α}, (∀ p : Int, a.filter (fun x => decide (key x = p)) = b.filter (fun x => decide (key x = p))) → a.Pairwise (fun a b => key a ≤ key b) → b.Pairwise (fun a b => key a ≤ key b) → a = b
  | [], [], _, _, _ => rfl
  | [], y :: ys, h, _, _ => by have := h (key y); simp at this
  | x :: xs, [], h, _, _ => by have := h (key x); simp at this
  | x :: xs, y :: ys, h, h1, h2 => by
    obtain ⟨p1, p2⟩ := List.pairwise_cons.1 h1
    obtain ⟨q1, q2⟩ := List.pairwise_cons.1 h2
    have hx : key y ≤ key x := by
      have hm : x ∈ (y :: ys).filter (fun z => decide (key z = key x)) := by rw [← h (key x)]; simp
      rcases List.mem_cons.1 (List.mem_filter.1 hm).1 with e | e
      · rw [e]; exact Int.le_refl _
      · exact q1 x e
    have hy : key x ≤ key y := by
      have hm : y ∈ (x :: xs).filter (fun z => decide (key z = key y)) := by rw [h (key y)]; simp
      rcases List.mem_cons.1 (List.mem_filter.1 hm).1 with e | e
      · rw [e]; exact Int.le_refl _
      · exact p1 y e
    have hk : key x = key y := Int.le_antisymm hy hx
    have hxy : x = y := by
      have := h (key x)
      rw [List.filter_cons_of_pos (by simp), List.filter_cons_of_pos (by simp [hk])] at this
      exact (List.cons.inj this).1
    subst hxy
    rw [stab_unique (a := xs) (b := ys) (fun p => ?_) p2 q2]
    have := h p
    by_cases hp : key x = p
    · rw [List.filter_cons_of_pos (by simpa using hp), List.filter_cons_of_pos (by simpa using hp)] at this
      exact (List.cons.inj this).2
    · rw [List.filter_cons_of_neg (by simpa using hp), List.filter_cons_of_neg (by simpa using hp)] at this
      exact this
omit [Inhabited α] in
theorem Stab.unique {l a b : List α} (h1 : Stab key l a) (h2 : Stab key l b) : a = b := stab_unique (fun p => (h1.1 p).trans (h2.1 p).symm) h1.2 h2.2
variable (key)
def insP (x : α) : List α → List α
  | [] => [x]
  | y :: ys => if key x < key y then x :: y :: ys else y :: insP x ys
def sortP (l : List α) : List α := l.foldl (fun a x => insP key x a) []
variable {key}
omit [Inhabited α] in
theorem insP_mem (x : α) : ∀ (l : List α) (y : α), y ∈ insP key x l ↔ y = x ∨ y ∈ l
  | [], y => by simp [insP]
  | z :: zs, y => by
    unfold insP
    split
    · simp
    · rw [List.mem_cons, insP_mem x zs y, List.mem_cons]
      constructor
      · rintro (h | h | h)
        · exact .inr (.inl h)
        · exact .inl h
        · exact .inr (.inr h)
      · rintro (h | h | h)
        · exact .inr (.inl h)
        · exact .inl h
        · exact .inr (.inr h)
omit [Inhabited α] in
theorem insP_sorted (x : α) : ∀ (l : List α), l.Pairwise (fun a b => key a ≤ key b) → (insP key x l).Pairwise (fun a b => key a ≤ key b)
  | [], _ => by simp [insP]
  | z :: zs, h => by
    obtain ⟨h1, h2⟩ := List.pairwise_cons.1 h
    unfold insP
    split
    · rename_i hl
      refine List.pairwise_cons.2 ⟨fun y hy => ?_, h⟩
      rcases List.mem_cons.1 hy with rfl | hy
      · omega
      · have := h1 y hy; omega
    · rename_i hl
      refine List.pairwise_cons.2 ⟨fun y hy => ?_, insP_sorted x zs h2⟩
      rcases (insP_mem x zs y).1 hy with rfl | hy
      · omega
      · exact h1 y hy
omit [Inhabited α] in
theorem insP_filter (x : α) (p : Int) : ∀ (l : List α), l.Pairwise (fun a b => key a ≤ key b) → (insP key x l).filter (fun x => decide (key x = p)) = (l ++ [x]).filter (fun x => decide (key x = p))
  | [], _ => by simp [insP]
  | z :: zs, h => by
    obtain ⟨h1, h2⟩ := List.pairwise_cons.1 h
    unfold insP
    split
    · rename_i hl
      by_cases hp : key x = p
      · have hn : (z :: zs).filter (fun x => decide (key x = p)) = [] := List.filter_eq_nil_iff.2 (fun y hy => by
          have : key z ≤ key y := by
            rcases List.mem_cons.1 hy with rfl | hy
            · exact Int.le_refl _
            · exact h1 y hy
          simp only [decide_eq_true_eq]; omega)
        rw [List.filter_append, hn, List.filter_cons_of_pos (by simpa using hp), hn, List.filter_cons_of_pos (by simpa using hp)]
        rfl
      · rw [List.filter_append, List.filter_cons_of_neg (by simpa using hp), List.filter_cons_of_neg (p := fun x => decide (key x = p)) (a := x) (l := []) (by simpa using hp)]
        simp
    · rw [List.cons_append, List.filter_cons, List.filter_cons, insP_filter x p zs h2]
omit [Inhabited α] in
theorem Stab.snoc {l a : List α} (h : Stab key l a) (x : α) : Stab key (l ++ [x]) (insP key x a) := by
  refine ⟨fun p => ?_, insP_sorted x a h.2⟩
  rw [insP_filter x p a h.2, List.filter_append, List.filter_append, h.1 p]
omit [Inhabited α] in
theorem sortP_snoc (l : List α) (x : α) : sortP key (l ++ [x]) = insP key x (sortP key l) := by unfold sortP; rw [List.foldl_append]; rfl
omit [Inhabited α] in
theorem sortP_stab (l : List α) : Stab key l (sortP key l) := by
  have : ∀ r : List α, Stab key r.reverse (sortP key r.reverse) := by
    intro r
    induction r with
    | nil => exact Stab.nil
    | cons x r ih => rw [List.reverse_cons, sortP_snoc]; exact ih.snoc x
  simpa using this l.reverse
omit [Inhabited α] in
theorem sortP_unique {l a : List α} (h : Stab key l a) : a = sortP key l := h.unique (sortP_stab l)
omit [Inhabited α] in
theorem stab_map {β : Type} (f : β → α) {l a : List β} (h : Stab (fun x => key (f x)) l a) : Stab key (l.map f) (a.map f) := by
  refine ⟨fun p => ?_, List.pairwise_map.2 h.2⟩
  rw [List.filter_map, List.filter_map]
  exact congrArg _ (h.1 p)
variable (key)
def StabR (d d' : Array α) : Prop := d'.size = d.size ∧ ∀ p : Int, d'.toList.filter (fun x => decide (key x = p)) = d.toList.filter (fun x => decide (key x = p))
variable {key}
omit [Inhabited α] in
theorem StabR.refl (d : Array α) : StabR key d d := ⟨rfl, fun _ => rfl⟩
omit [Inhabited α] in
theorem StabR.trans {a b c : Array α} (h : StabR key a b) (k : StabR key b c) : StabR key a c := ⟨k.1.trans h.1, fun p => (k.2 p).trans (h.2 p)⟩
def exF (f : Nat → α) (s m e t : Nat) : α := if s ≤ t ∧ t < s + (e - m) then f (t + (m - s)) else if s + (e - m) ≤ t ∧ t < e then f (t - (e - m)) else f t
theorem ex_list (d d' : Array α) (s m e : Nat) (h1 : s ≤ m) (h2 : m ≤ e) (h3 : e ≤ d.size) (hs : d'.size = d.size) (hg : ∀ t, t < d.size → d'[t]! = exF (fun i => d[i]!) s m e t) :
    d'.toList = d.toList.take s ++ ((d.toList.drop m).take (e - m) ++ ((d.toList.drop s).take (m - s) ++ d.toList.drop e)) := by
  apply List.ext_getElem
  · simp; omega
  · intro t ht1 ht2
    have ht : t < d.size := by rw [← hs]; simpa using ht1
    have e1 : d'.toList[t] = d'[t]! := by rw [getElem!_pos d' t (by omega)]; simp
    have gd : ∀ i (hi : i < d.size), d[i]! = d.toList[i]'(by simpa using hi) := fun i hi => by rw [getElem!_pos d i hi]; simp
    rw [e1, hg t ht]
    unfold exF
    simp only [List.getElem_append, List.length_take, List.length_drop, Array.length_toList, List.getElem_take, List.getElem_drop]
    by_cases c1 : t < s
    · rw [if_neg (by omega), if_neg (by omega), dif_pos (by omega), gd t ht]
    · rw [dif_neg (by omega)]
      by_cases c2 : t < s + (e - m)
      · rw [if_pos (by omega), dif_pos (by omega), gd _ (by omega)]
        congr 1
        omega
      · rw [if_neg (by omega), dif_neg (by omega)]
        by_cases c3 : t < e
        · rw [if_pos (by omega), dif_pos (by omega), gd _ (by omega)]
          congr 1
          omega
        · rw [if_neg (by omega), dif_neg (by omega), gd _ (by omega)]
          congr 1
          omega
omit [Inhabited α] in
theorem parts_list (l : List α) (s m e : Nat) (h1 : s ≤ m) (h2 : m ≤ e) : l = l.take s ++ ((l.drop s).take (m - s) ++ ((l.drop m).take (e - m) ++ l.drop e)) := by
  have a := (List.take_append_drop s l).symm
  have b := (List.take_append_drop (m - s) (l.drop s)).symm
  have c := (List.take_append_drop (e - m) (l.drop m)).symm
  rw [List.drop_drop, show s + (m - s) = m by omega] at b
  rw [List.drop_drop, show m + (e - m) = e by omega] at c
  rw [← c, ← b, ← a]
theorem ex_stab {d d' : Array α} {s m e : Nat} (h1 : s ≤ m) (h2 : m ≤ e) (h3 : e ≤ d.size) (hs : d'.size = d.size) (hg : ∀ t, t < d.size → d'[t]! = exF (fun i => d[i]!) s m e t)
    (hk : ∀ i j, s ≤ i → i < m → m ≤ j → j < e → key d[j]! < key d[i]!) : StabR key d d' := by
  refine ⟨hs, fun p => ?_⟩
  rw [ex_list d d' s m e h1 h2 h3 hs hg]
  conv => rhs; rw [parts_list d.toList s m e h1 h2]
  simp only [List.filter_append]
  congr 1
  rw [← List.append_assoc, ← List.append_assoc]
  congr 1
  have memX : ∀ x ∈ (d.toList.drop s).take (m - s), ∃ i, s ≤ i ∧ i < m ∧ x = d[i]! := by
    intro x hx
    obtain ⟨i, hi, e1⟩ := List.getElem_of_mem hx
    simp only [List.length_take, List.length_drop, Array.length_toList] at hi
    refine ⟨s + i, by omega, by omega, ?_⟩
    rw [← e1, getElem!_pos d (s + i) (by omega)]
    simp
  have memY : ∀ x ∈ (d.toList.drop m).take (e - m), ∃ i, m ≤ i ∧ i < e ∧ x = d[i]! := by
    intro x hx
    obtain ⟨i, hi, e1⟩ := List.getElem_of_mem hx
    simp only [List.length_take, List.length_drop, Array.length_toList] at hi
    refine ⟨m + i, by omega, by omega, ?_⟩
    rw [← e1, getElem!_pos d (m + i) (by omega)]
    simp
  by_cases hX : ∃ i, s ≤ i ∧ i < m ∧ key d[i]! = p
  · obtain ⟨i, a1, a2, a3⟩ := hX
    have hn : ((d.toList.drop m).take (e - m)).filter (fun x => decide (key x = p)) = [] := List.filter_eq_nil_iff.2 (fun y hy => by
      obtain ⟨j, b1, b2, rfl⟩ := memY y hy
      have := hk i j a1 a2 b1 b2
      simp only [decide_eq_true_eq]; omega)
    rw [hn]
    simp
  · have hn : ((d.toList.drop s).take (m - s)).filter (fun x => decide (key x = p)) = [] := List.filter_eq_nil_iff.2 (fun y hy => by
      obtain ⟨j, b1, b2, rfl⟩ := memX y hy
      simp only [decide_eq_true_eq]
      exact fun e => hX ⟨j, b1, b2, e⟩)
    rw [hn]
    simp
theorem swp_ex (d : Array α) (j : Nat) (h : j + 1 < d.size) (t : Nat) (ht : t < d.size) : (swp d (j + 1) j)[t]! = exF (fun i => d[i]!) j (j + 1) (j + 2) t := by
  rw [swp_get d h (by omega)]
  unfold exF
  by_cases c1 : t = j
  · rw [if_pos c1, if_pos (by omega)]
    subst c1
    congr 1
    omega
  · by_cases c2 : t = j + 1
    · rw [if_neg c1, if_pos c2, if_neg (by omega), if_pos (by omega)]
      congr 1
      omega
    · rw [if_neg c1, if_neg c2, if_neg (by omega), if_neg (by omega)]
theorem swp_stab {d : Array α} {j : Nat} (h : j + 1 < d.size) (hk : key d[j + 1]! < key d[j]!) : StabR key d (swp d (j + 1) j) :=
  ex_stab (s := j) (m := j + 1) (e := j + 2) (by omega) (by omega) (by omega) (by rw [size_swp]) (fun t ht => swp_ex d j h t ht) (fun i i' h1 h2 h3 h4 => by
    obtain rfl : i = j := by omega
    obtain rfl : i' = i + 1 := by omega
    exact hk)
def cfK (key : α → Int) (x y : α) : Int := if key x < key y then -1 else if key y < key x then 1 else 0
omit [Inhabited α] in
theorem ltK (key : α → Int) (x y : α) : ltOf (cfK key) x y = decide (key x < key y) := by
  unfold ltOf cfK
  by_cases h : key x < key y
  · rw [if_pos h]; simp [h]
  · rw [if_neg h]
    by_cases h2 : key y < key x
    · rw [if_pos h2]; simp [h]
    · rw [if_neg h2]; simp [h]
omit [Inhabited α] in
theorem swoK (key : α → Int) : SWO (ltOf (cfK key)) := by
  refine ⟨fun x => ?_, fun x y z h1 h2 => ?_, fun x y z h1 h2 => ?_⟩ <;> simp only [ltK, decide_eq_true_eq, decide_eq_false_iff_not] at * <;> omega
theorem insInner_stab (a : Nat) : ∀ (j : Nat) (d : Array α), j < d.size → StabR key d (insInner (ltOf (cfK key)) a j d)
  | 0, d, _ => by rw [insInner]; exact StabR.refl d
  | j + 1, d, h => by
    rw [insInner]
    split
    · rename_i hc
      rw [Bool.and_eq_true, ltK, decide_eq_true_eq, decide_eq_true_eq] at hc
      exact (swp_stab h hc.2).trans (insInner_stab a j _ (by rw [size_swp]; omega))
    · exact StabR.refl d
theorem insOuter_stab (a b : Nat) : ∀ (n i : Nat) (d : Array α), b - i ≤ n → b ≤ d.size → StabR key d (insOuter (ltOf (cfK key)) a b i d)
  | 0, i, d, hn, hb => by rw [insOuter_stop _ _ _ _ _ (by omega)]; exact StabR.refl d
  | n + 1, i, d, hn, hb => by
    by_cases h : i < b
    · rw [insOuter_go _ _ _ _ _ h]
      have h1 := insInner_stab (key := key) a i d (by omega)
      exact h1.trans (insOuter_stab a b n (i + 1) _ (by omega) (by rw [h1.1]; exact hb))
    · rw [insOuter_stop _ _ _ _ _ h]; exact StabR.refl d
theorem insertion_stab (d : Array α) (a b : Nat) (hb : b ≤ d.size) : StabR key d (Sort.insertionSort (ltOf (cfK key)) d a b) := insOuter_stab a b (b - (a + 1)) (a + 1) d (Nat.le_refl _) hb
def SortedK (key : α → Int) (a b : Nat) (d : Array α) : Prop := ∀ i j, a ≤ i → i < j → j < b → key d[i]! ≤ key d[j]!
theorem sortedK_of {a b : Nat} {d : Array α} (h : SortedIn (ltOf (cfK key)) a b d) : SortedK key a b d := fun i j h1 h2 h3 => by
  have := h i j h1 h2 h3
  rw [ltK, decide_eq_false_iff_not] at this
  omega
theorem stab_of {d d' : Array α} (h : StabR key d d') (hs : SortedK key 0 d'.size d') : Stab key d.toList d'.toList := by
  refine ⟨h.2, List.pairwise_iff_getElem.2 (fun i j hi hj hij => ?_)⟩
  have hj' : j < d'.size := by simpa using hj
  have := hs i j (Nat.zero_le _) hij hj'
  rw [getElem!_pos d' i (by omega), getElem!_pos d' j hj'] at this
  simpa using this
end
end Go.Proofs.YtlgmanbilaminaaGreatDoor.S12
