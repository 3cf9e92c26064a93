/-
  What was written of made classes is read as it was, and their times fit: plain mathematics. No program; condition: the classes are as they are made.
-/
import Derived.Test.YtigdcgklpapfbaaGreatDoorVR26
import Derived.Test.YtigdcgklpapfbaaGreatDoorVR27
import Derived.Test.YtigdcgklpapfbaaGreatDoorVR28
set_option linter.unusedVariables false
namespace Go.Proofs.YtigdcgklpapfbaaGreatDoor.S10
open Go Go.Proofs Go.RowKit Go.Lib Go.Proofs.YtigdcgklpapfbaaGreatDoor

/-! ### Lists between signs -/
theorem splitC_cons (z : UInt8) (rest : Str) : ∀ (p : Str), z ∉ p → splitC z (p ++ z :: rest) = p :: splitC z rest
  | [], _ => by simp [splitC]
  | c :: p, h => by
    have hc : c ≠ z := fun e => h (by simp [e])
    have hp : z ∉ p := fun e => h (by simp [e])
    have ih := splitC_cons z rest p hp
    rw [List.cons_append, splitC, if_neg hc, ih]
    rfl
theorem splitC_one (z : UInt8) : ∀ (p : Str), z ∉ p → splitC z p = [p]
  | [], _ => rfl
  | c :: p, h => by
    have hc : c ≠ z := fun e => h (by simp [e])
    have hp : z ∉ p := fun e => h (by simp [e])
    rw [splitC, if_neg hc, splitC_one z p hp]
    rfl
theorem splitC_join (z : UInt8) : ∀ (l : List Str), l ≠ [] → (∀ p ∈ l, z ∉ p) → splitC z (Lib.join l [z]) = l
  | [], h, _ => absurd rfl h
  | [p], _, h => by rw [Lib.join_one]; exact splitC_one z p (h p (by simp))
  | p :: q :: r, _, h => by
    have e : Lib.join (p :: q :: r) [z] = p ++ z :: Lib.join (q :: r) [z] := by
      rw [Lib.join_cons, Lib.join_cons]
      simp [Lib.joinTail]
    rw [e, splitC_cons z _ p (h p (by simp)), splitC_join z (q :: r) (by simp) (fun x hx => h x (by simp [hx]))]
theorem semi_join : ∀ (l : List Str), S3.semi l = Lib.join l [59]
  | [] => rfl
  | [p] => by rw [Lib.join_one]; rfl
  | p :: q :: r => by
    have ih := semi_join (q :: r)
    show p ++ 59 :: S3.semi (q :: r) = _
    rw [ih, Lib.join_cons, Lib.join_cons]
    simp [Lib.joinTail]
theorem join_ne {z : UInt8} {l : List Str} (h : l ≠ []) (hp : ∀ p ∈ l, p ≠ []) : Lib.join l [z] ≠ [] := by
  cases l with
  | nil => exact absurd rfl h
  | cons p r =>
    rw [Lib.join_cons]
    intro e
    exact hp p (by simp) (List.append_eq_nil_iff.1 e).1
theorem partsGo_map {α β : Type} (f : Str → α × Int) (g : β → Str) (k : β → α) : ∀ (l : List β) (acc : List α), (∀ x ∈ l, f (g x) = (k x, 0)) → partsGo f (l.map g) acc = (acc ++ l.map k, 0)
  | [], acc, _ => by simp [partsGo]
  | x :: l, acc, h => by
    rw [List.map_cons, partsGo, h x (by simp), if_neg (by simp), partsGo_map f g k l _ (fun y hy => h y (by simp [hy]))]
    simp
theorem partsM_map {α β : Type} (f : Str → α × Int) (g : β → Str) (k : β → α) (z : UInt8) (most : Nat) (l : List β) (h0 : l ≠ []) (h : ∀ x ∈ l, f (g x) = (k x, 0) ∧ z ∉ g x) (hm : l.length ≤ most) :
    partsM f z most (Lib.join (l.map g) [z]) = (l.map k, 0) := by
  unfold partsM
  rw [splitC_join z (l.map g) (by simpa using h0) (fun p hp => by obtain ⟨x, hx, rfl⟩ := List.mem_map.1 hp; exact (h x hx).2), partsGo_map f g k l [] (fun x hx => (h x hx).1), if_neg (by simp), if_neg (by simpa using hm)]
  simp

/-! ### Sets of weeks -/
theorem hasm (c : UInt8) : ∀ l : Str, has c l = false → c ∉ l
  | [], _ => by simp
  | x :: r, h => by
    simp only [has, Bool.or_eq_false_iff, beq_eq_false_iff_ne, ne_eq] at h
    intro hm
    rcases List.mem_cons.1 hm with e | e
    · exact h.1 e.symm
    · exact hasm c r h.2 e
theorem item_sign : ∀ a b : Fin 25, has 47 (itemT a.val b.val) = false ∧ has 59 (itemT a.val b.val) = false := by decide +kernel
theorem joinC_sign (z : UInt8) (hz : z ≠ 44) : ∀ (l : List Str), (∀ x ∈ l, has z x = false) → has z (joinC l) = false
  | [], _ => rfl
  | [x], h => h x (by simp)
  | x :: y :: l, h => by
    show has z (x ++ 44 :: joinC (y :: l)) = false
    rw [has_app, h x (by simp)]
    simp only [has]
    rw [joinC_sign z hz (y :: l) (fun w hw => h w (List.mem_cons_of_mem _ hw))]
    simp
    exact fun e => hz e.symm
theorem word_sign : ∀ k : Fin 5, has 47 (wordS k.val) = false ∧ has 59 (wordS k.val) = false := by decide
theorem form_sign {s n : Nat} (hs : s < 2 ^ n) (hn : n ≤ 20) : has 47 (formN s n) = false ∧ has 59 (formN s n) = false := by
  unfold formN
  cases h : nameK s n with
  | some k => exact word_sign ⟨k, (nameK_of h).1⟩
  | none =>
    have hi : ∀ x ∈ (runs (weeksP s 20)).map (fun r => itemT r.1 r.2), has 47 x = false ∧ has 59 x = false := fun x hx => by
      obtain ⟨r, hr, rfl⟩ := List.mem_map.1 hx
      obtain ⟨h1, h2, h3⟩ := runs_ok hs hn r hr
      exact item_sign ⟨r.1, by omega⟩ ⟨r.2, by omega⟩
    exact ⟨joinC_sign 47 (by decide) _ (fun x hx => (hi x hx).1), joinC_sign 59 (by decide) _ (fun x hx => (hi x hx).2)⟩
theorem pat_read {n : Nat} (h1 : 1 ≤ n) (h2 : n ≤ 20) {p : Int} (hp : 1 ≤ p) (hp2 : p < 2 ^ n) : patM (n : Int) (patS (n : Int) p) = (p, 0) ∧ 47 ∉ patS (n : Int) p := by
  have hv : validM p (n : Int) = true := validM_yes h1 h2 hp hp2
  obtain ⟨s, k, rfl, hk, _, _, hs1, hs2⟩ := valid_nat hv
  obtain rfl : n = k := by omega
  unfold patS
  rw [formM_yes hv]
  unfold patM
  dsimp only
  rw [parse_form hs1 hs2 h1 h2]
  exact ⟨rfl, hasm 47 _ (form_sign hs2 h2).1⟩
theorem pats_read {n : Nat} (h1 : 1 ≤ n) (h2 : n ≤ 20) {l : List Int} (h0 : l ≠ []) (hl : l.length ≤ 8) (hd : l.Nodup) (hp : ∀ p ∈ l, 1 ≤ p ∧ p < 2 ^ n) : patsM (n : Int) (patsS (n : Int) l) = (l, 0) := by
  have h := partsM_map (patM (n : Int)) (patS (n : Int)) id 47 8 l h0 (fun p hm => pat_read h1 h2 (hp p hm).1 (hp p hm).2) hl
  rw [List.map_id] at h
  unfold patsM patsS
  rw [h, if_neg (by simp), if_neg (by simp [dupB, hd])]
theorem patsB_ok {n : Nat} (h1 : 1 ≤ n) (h2 : n ≤ 20) {l : List Int} (hd : l.Nodup) (hp : ∀ p ∈ l, 1 ≤ p ∧ p < 2 ^ n) : patsB (n : Int) l = true := by
  unfold patsB dupB
  simp only [Bool.and_eq_true, List.all_eq_true, Bool.not_eq_true', Bool.not_eq_false', decide_eq_true_eq]
  exact ⟨fun p hm => validM_yes h1 h2 (hp p hm).1 (hp p hm).2, hd⟩

/-! ### Codes -/
/-- A short list of codes in ascending order. -/
structure Few (l : List Str) : Prop where
  len : l.length ≤ 8
  ok : ∀ c ∈ l, S3.validC c = true
  up : l.Pairwise (· < ·)
theorem Few.sub {l l' : List Str} (h : Few l) (hs : l'.Sublist l) : Few l' :=
  ⟨Nat.le_trans hs.length_le h.len, fun c hc => h.ok c (hs.subset hc), h.up.sublist hs⟩
theorem rises_up : ∀ (l : List Str), l.Pairwise (· < ·) → risesL l = true
  | [], _ => rfl
  | [_], _ => rfl
  | a :: b :: r, h => by
    rw [List.pairwise_cons] at h
    unfold risesL
    rw [Bool.and_eq_true, decide_eq_true_eq]
    exact ⟨h.1 b (by simp), rises_up (b :: r) h.2⟩
theorem Few.featB {l : List Str} (h : Few l) : featB l = true := by
  unfold Go.Proofs.YtigdcgklpapfbaaGreatDoor.featB
  rw [rises_up l h.up, Bool.and_true]
  exact List.all_eq_true.2 h.ok
theorem Few.nodup {l : List Str} (h : Few l) : l.Nodup := h.up.imp (fun {a b} hab e => by subst e; exact List.lt_irrefl _ hab)
theorem Few.check {l : List Str} (h : Few l) : S3.checkM l = 0 := by
  unfold S3.checkM
  rw [if_neg (by have := h.len; omega)]
  exact S3.checkGo_ok l [] h.ok (fun c _ => by simp) h.nodup
theorem Few.read {l : List Str} (h : Few l) : featsM (featsS l) = (l, 0) := by
  have hs : sortS l = l := by
    unfold sortS
    exact List.mergeSort_of_pairwise (h.up.imp (fun {a b} hab => by simpa using List.le_of_lt hab))
  unfold featsS
  rw [if_pos h.check]
  unfold featsM
  rw [S3.list_join l h.check, if_neg (by simp), if_neg (by have := h.len; show ¬ 8 < l.length; omega), hs]
theorem few_feature : Few featureS := ⟨by decide, by decide, by decide⟩
theorem few_people : Few peopleS := ⟨by decide, by decide, by decide⟩

/-! ### Starts -/
theorem day_sign : ∀ y : Fin 7, has 59 (dayS y.val) = false ∧ has 32 (dayS y.val) = false ∧ dayS y.val ≠ [] := by decide
theorem dec_sign : ∀ u : Fin 24, has 59 (dec2 (u.val + 1)) = false ∧ smallN (dec2 (u.val + 1)) = u.val + 1 := by decide +kernel
theorem start_read {d s b m len : Int} (hg : MadeG d s b m) {t : StartD} (h1 : 1 ≤ len) (ht : 0 ≤ t.1 ∧ t.1 < d) (hu : 0 ≤ t.2 ∧ t.2 + len ≤ s) :
    startM d s b m len (startS d s b m t) = (t, 0) ∧ 59 ∉ startS d s b m t ∧ startS d s b m t ≠ [] ∧ fitS d s b m len t = true := by
  have hm : MadeT d s 1 1 t.1 t.2 len := ⟨⟨by omega, by decide⟩, ht, ⟨hu.1, by omega⟩, h1, hu.2⟩
  have hm1 : MadeT d s 1 1 t.1 t.2 1 := ⟨⟨by omega, by decide⟩, ht, ⟨hu.1, by omega⟩, by omega, by omega⟩
  have hf : fitsM d s b m 1 1 t.1 t.2 len = 0 := made_fits (n := 1) hg (by omega) (by omega) hm
  have hf1 : fitsM d s b m 1 1 t.1 t.2 1 = 0 := made_fits (n := 1) hg (by omega) (by omega) hm1
  have hfit : fitS d s b m len t = true := decide_eq_true hf
  obtain ⟨y, u, rfl, hy, hu24, hS⟩ := startS_eq hfit
  have e1 : startS d s b m ((y : Int), (u : Int)) = timeT 1 1 y u 1 := by
    unfold startS timeS textT
    dsimp only
    rw [if_pos hf1]
    simp
  have e2 : timeM d s b m 1 (startS d s b m ((y : Int), (u : Int))) = ((1, (y : Int), (u : Int), 1), 0) := by
    rw [e1]
    have := time_read (n := 1) (k := 1) (y := y) (t := u) (l := 1) (d := d) (s := s) (b := b) (m := m) (by simpa using hf1)
    simpa using this
  have k1 := day_sign ⟨y, hy⟩
  have k2 := dec_sign ⟨u, hu24⟩
  dsimp only at k1 k2
  rw [dec2_digits _ (by omega)] at k2
  have e3 : aft 32 (startS d s b m ((y : Int), (u : Int))) = decDigits (u + 1) := by rw [hS]; exact (cutAt 32 _ _ k1.2.1).2.1
  refine ⟨?_, ?_, ?_, hfit⟩
  · unfold startM
    rw [e3, k2.2, if_neg (by omega), e2, if_neg (by simp), if_neg (by simpa using hf)]
  · apply hasm
    rw [hS, has_app, k1.1]
    simp only [has]
    rw [k2.1]
    rfl
  · rw [hS]
    simp
theorem starts_go (f : StartD → Bool) : ∀ (l : List StartD) (p : Option StartD), (∀ t ∈ l, f t = true) → l.Pairwise (fun a b => a.1 < b.1) → (∀ q, p = some q → ∀ t ∈ l, q.1 < t.1) → startsGo f p l = true
  | [], _, _, _, _ => rfl
  | t :: r, p, hf, hu, hp => by
    rw [List.pairwise_cons] at hu
    rw [startsGo, hf t (by simp), starts_go f r (some t) (fun x hx => hf x (by simp [hx])) hu.2 (fun q hq x hx => by injection hq with hq; subst hq; exact hu.1 x hx)]
    cases p with
    | none => rfl
    | some q =>
      have := hp q rfl t (by simp)
      simp [okP, ltB, this]
theorem starts_read {d s b m len : Int} (hg : MadeG d s b m) (h1 : 1 ≤ len) {l : List StartD} (h0 : l ≠ []) (hl : l.length ≤ 24) (hu : l.Pairwise (fun a b => a.1 < b.1)) (hx : ∀ t ∈ l, (0 ≤ t.1 ∧ t.1 < d) ∧ 0 ≤ t.2 ∧ t.2 + len ≤ s) :
    startsM d s b m len (startsS d s b m l) = (l, 0) ∧ startsB d s b m len l = true := by
  have hr := fun t ht => start_read hg h1 (hx t ht).1 (hx t ht).2
  have hnd : l.Nodup := hu.imp (fun {a b} hab e => by subst e; omega)
  have hst : sortT l = l := List.mergeSort_of_pairwise (hu.imp (fun {a b} hab => by simp [leS, hab]))
  have hp := partsM_map (startM d s b m len) (startS d s b m) id 59 24 l h0 (fun t ht => ⟨(hr t ht).1, (hr t ht).2.1⟩) hl
  rw [List.map_id] at hp
  constructor
  · unfold startsM startsS
    rw [semi_join, if_neg (join_ne (by simpa using h0) (fun p hp => by obtain ⟨t, ht, rfl⟩ := List.mem_map.1 hp; exact (hr t ht).2.2.1)), hp, if_neg (by simp), if_neg (by simp [dupB, hnd]), hst]
  · exact starts_go _ l none (fun t ht => (hr t ht).2.2.2) hu (fun q hq => by cases hq)

/-! ### Classes as they are made -/
theorem course_ok {k : Nat} (h : k < 3) : S3.validC (courseS k) = true := by
  rcases (show k = 0 ∨ k = 1 ∨ k = 2 by omega) with rfl | rfl | rfl <;> decide
theorem part_ok {k : Nat} (h : k < 2) : S3.validC (partS k) = true := by
  rcases (show k = 0 ∨ k = 1 by omega) with rfl | rfl <;> decide
theorem code_ok : ∀ j : Fin 6, S3.validC (codeS j.val) = true := by decide
theorem code_ne : ∀ i j : Fin 6, i ≠ j → codeS i.val ≠ codeS j.val := by decide
theorem len_read {s len : Int} (h : 1 ≤ len ∧ len ≤ 2 ∧ len ≤ s) : lenM s (decDigits len.toNat) = (len, 0) := by
  rcases (show len = 1 ∨ len = 2 by omega) with rfl | rfl
  · rw [show decDigits (1 : Int).toNat = [49] from dec2_digits 1 (by omega) ▸ rfl]
    unfold lenM
    rw [show smallN [49] = 1 from rfl, if_neg (by omega), if_neg (by omega)]
    rfl
  · rw [show decDigits (2 : Int).toNat = [50] from dec2_digits 2 (by omega) ▸ rfl]
    unfold lenM
    rw [show smallN [50] = 2 from rfl, if_neg (by omega), if_neg (by omega)]
    rfl
theorem seats_read {x : Int} (h : x = 0 ∨ x = 10 ∨ x = 20 ∨ x = 30) : seatsF (decDigits x.toNat) = (x, 0) := by
  rcases h with rfl | rfl | rfl | rfl
  · rw [show decDigits (0 : Int).toNat = [48] from dec2_digits 0 (by omega) ▸ rfl]; rfl
  · rw [show decDigits (10 : Int).toNat = [49, 48] from dec2_digits 10 (by omega) ▸ rfl]; rfl
  · rw [show decDigits (20 : Int).toNat = [50, 48] from dec2_digits 20 (by omega) ▸ rfl]; rfl
  · rw [show decDigits (30 : Int).toNat = [51, 48] from dec2_digits 30 (by omega) ▸ rfl]; rfl
section
variable {d s b m : Int} {n : Nat} {names : List Str}
theorem class_check (hg : MadeG d s b m) (h1 : 1 ≤ n) (h2 : n ≤ 20) (hn : Few names) {j : Nat} (hj : j < 6) {x : ClassD} (h : ClassOk d s n names (codeS j) x) : checkM d s b m n x = 0 := by
  obtain ⟨kc, hkc, hc⟩ := h.course
  obtain ⟨kp, hkp, hp⟩ := h.part
  have f1 := (few_feature.sub h.feats)
  have f2 := (hn.sub h.staff)
  unfold checkM
  rw [h.code, hc, hp, code_ok ⟨j, hj⟩, course_ok hkc, part_ok hkp, if_neg (by simp), if_neg (by simp [h.len.1, h.len.2.2]), if_neg (by simpa using h.pats.1), if_neg (by have := h.pats.2.1; omega),
    patsB_ok h1 h2 h.pats.2.2.1 h.pats.2.2.2, if_neg (by simp), if_neg (by rcases h.seats with e | e | e | e <;> omega), if_neg (by have := f1.len; have := f2.len; omega), f1.featB, f2.featB, if_neg (by simp),
    if_neg (by have := h.starts.2.1; omega), (starts_read hg h.len.1 h.starts.1 (by have := h.starts.2.1; omega) h.starts.2.2.1 h.starts.2.2.2).2, if_neg (by simp)]
theorem class_entry (hg : MadeG d s b m) (h1 : 1 ≤ n) (h2 : n ≤ 20) (hn : Few names) {j : Nat} (hj : j < 6) {x : ClassD} (h : ClassOk d s n names (codeS j) x) : entryM d s b m n (colsM 1 (rowK d s b m n x)) = (x, 0, 0) := by
  obtain ⟨kc, hkc, hc⟩ := h.course
  obtain ⟨kp, hkp, hp⟩ := h.part
  have v0 : S3.validC x.code = true := by rw [h.code]; exact code_ok ⟨j, hj⟩
  have v1 : S3.validC x.course = true := by rw [hc]; exact course_ok hkc
  have v2 : S3.validC x.part = true := by rw [hp]; exact part_ok hkp
  have v3 := len_read h.len
  have v4 := pats_read h1 h2 h.pats.1 (by have := h.pats.2.1; omega) h.pats.2.2.1 h.pats.2.2.2
  have v5 := seats_read h.seats
  have v6 := (few_feature.sub h.feats).read
  have v7 := (hn.sub h.staff).read
  have v8 := (starts_read hg h.len.1 h.starts.1 (by have := h.starts.2.1; omega) h.starts.2.2.1 h.starts.2.2.2).1
  obtain ⟨c0, c1, c2, len, pats, seats, feats, staff, starts⟩ := x
  dsimp only at v0 v1 v2 v3 v4 v5 v6 v7 v8
  unfold entryM rowK
  rw [if_neg (by rw [colsM_len]; simp)]
  simp only [colsM, efold, setF, v0, v1, v2, v3, v4, v5, v6, v7, v8, zeroC]
  simp
theorem class_rec (hg : MadeG d s b m) (h1 : 1 ≤ n) (h2 : n ≤ 20) (hn : Few names) {j : Nat} (hj : j < 6) {x : ClassD} (h : ClassOk d s n names (codeS j) x) (i : Int) (l : List ClassD) (hc : x.code ∉ codesK l) (hl : l.length < 24) :
    recM d s b m n (l, []) (i, colsM 1 (rowK d s b m n x)) = (l ++ [x], []) := by
  have he := class_entry hg h1 h2 hn hj h
  have ha : addC l x.code = 0 := by
    unfold addC
    rw [if_neg hc, if_neg (by omega)]
  unfold recM
  dsimp only
  rw [he]
  dsimp only
  rw [if_neg (by simp), ha, if_neg (by simp)]
theorem codes_fresh {ls : List ClassD} (h : ClassesOk d s n names ls) {i : Nat} (hi : i < ls.length) : ls[i].code ∉ codesK (ls.take i) := by
  intro hm
  unfold codesK at hm
  obtain ⟨y, hy, e⟩ := List.mem_map.1 hm
  obtain ⟨k, hk, rfl⟩ := List.mem_iff_getElem.1 hy
  rw [List.length_take] at hk
  rw [List.getElem_take] at e
  have a := (h.at_ k _ (List.getElem?_eq_getElem (by omega))).code
  have c := (h.at_ i _ (List.getElem?_eq_getElem hi)).code
  rw [a, c] at e
  have h6 := h.len
  exact code_ne ⟨k, by omega⟩ ⟨i, by omega⟩ (fun e => by injection e with e; omega) e
/-- Made classes are valid, and read as they were written. -/
theorem classes_made (hg : MadeG d s b m) (h1 : 1 ≤ n) (h2 : n ≤ 20) (hn : Few names) {ls : List ClassD} (h : ClassesOk d s n names ls) :
    validK d s b m n ls = 0 ∧ readM d s b m n (plainM (ls.map (rowK d s b m n))) = (ls, []) := by
  have hf := made_frame hg h1 h2
  have h6 := h.len
  have hk := fun (i : Nat) (hi : i < ls.length) => h.at_ i _ (List.getElem?_eq_getElem hi)
  constructor
  · unfold validK
    rw [if_neg (by simp [hf]), if_neg (by omega)]
    have go : ∀ k i, i + k = ls.length → goK d s b m n (codesK (ls.take i)) (ls.drop i) = 0 := by
      intro k
      induction k with
      | zero => intro i hi; rw [List.drop_of_length_le (by omega)]; rfl
      | succ k ih =>
        intro i hi
        have hlt : i < ls.length := by omega
        rw [goK_step d s b m n ls i hlt, class_check hg h1 h2 hn (by omega) (hk i hlt), if_neg (by simp), if_neg (codes_fresh h hlt)]
        exact ih (i + 1) (by omega)
    have := go ls.length 0 (by omega)
    simpa [codesK] using this
  · unfold readM
    rw [if_pos hf]
    have go : ∀ i, i ≤ ls.length → recsM d s b m n (plainM ((ls.map (rowK d s b m n)).take i)) = (ls.take i, []) := by
      intro i
      induction i with
      | zero => intro _; simp [plainM, recsM]
      | succ i ih =>
        intro hi
        have hlt : i < ls.length := by omega
        rw [plainM_take _ i (by simpa using hlt)]
        unfold recsM
        rw [List.foldl_append]
        have := ih (by omega)
        unfold recsM at this
        rw [this]
        simp only [List.foldl_cons, List.foldl_nil, List.getElem_map]
        rw [class_rec hg h1 h2 hn (by omega) (hk i hlt) _ _ (codes_fresh h hlt) (by rw [List.length_take]; omega), List.take_succ_eq_append_getElem hlt]
    have := go ls.length (Nat.le_refl _)
    rw [List.take_of_length_le (by simp), List.take_length] at this
    exact this
/-- The times of a made class. -/
theorem class_times (hg : MadeG d s b m) (h1 : 1 ≤ n) (h2 : n ≤ 20) {code : Str} {x : ClassD} (h : ClassOk d s n names code x) :
    (timesC d s b m x).length = x.pats.length * x.starts.length ∧ ∀ t ∈ timesC d s b m x, fitsM d s b m n t.1 t.2.1 t.2.2.1 t.2.2.2 = 0 ∧ t.2.2.2 = x.len := by
  have hgr : gridB d s b m = true := decide_eq_true (made_grid hg)
  have e : startsOf d s x = x.starts := if_neg h.starts.1
  have e2 : timesC d s b m x = x.pats.flatMap fun k => timesOf k x.len x.starts := by
    unfold timesC
    rw [if_pos ⟨hgr, h.len.1, h.len.2.2⟩, e]
  rw [e2]
  constructor
  · rw [List.length_flatMap, show (fun k => (timesOf k x.len x.starts).length) = fun _ : Int => x.starts.length from funext fun k => by simp [timesOf], sum_const]
  · intro t ht
    obtain ⟨k, hk, hkt⟩ := List.mem_flatMap.1 ht
    obtain ⟨u, hu, rfl⟩ := List.mem_map.1 hkt
    have hs := h.starts.2.2.2 u hu
    have hp := h.pats.2.2.2 k hk
    exact ⟨made_fits hg h1 h2 ⟨hp, hs.1, ⟨hs.2.1, by have := h.len.1; have := hs.2.2; show u.2 < s; omega⟩, h.len.1, hs.2.2⟩, rfl⟩
end
end Go.Proofs.YtigdcgklpapfbaaGreatDoor.S10
