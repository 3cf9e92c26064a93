/-
  The reference's follows: whether a code is the next one of another. Conditions: both are at most 16 bytes long, the width is at most 16.
  The runs of the reference's Join, one after another: mathematics.
  The reference's List, what a part gives: plain mathematics. No program, no conditions.
-/
import Derived.Test.YteckefolakjafaaGreatDoorBR22
import Derived.Test.YteckefolakjafaaGreatDoorBR24
import Derived.Test.YteckefolakjafaaGreatDoorBR19
import Derived.Test.YteckefolakjafaaGreatDoorBR16
import Derived.Test.YteckefolakjafaaGreatDoorBR18
set_option linter.unusedVariables false
namespace Go.Proofs.YteckefolakjafaaGreatDoor.S3
open Go Go.Proofs Go.RowKit Go.Lib

/-- Whether a code is the next one of another, in a width. -/
def followsB (c p : Str) (k : Nat) : Bool := hasL p && decide (c = preS p ++ wrS (numL p + 1) k)

set_option maxHeartbeats 4000000 in
set_option maxRecDepth 100000 in
theorem follows_any (c p : ByteArray) (k : Nat) (hc : c.size ≤ 16) (hp : p.size ≤ 16) (hk : k ≤ 16) (w : World) :
    Calls Tryz.prog 39 #[.string c, .string p, .int .i64 (k : Int)] w fun e w' => e = .returned (.bool (followsB (lst c) (lst p) k)) ∧ Below w.heap.size w w' := by
  have cT := tail_any p hp
  obtain ⟨h16l, h16p⟩ := last_len (lst p) (by rw [← Lib.size_eq]; exact hp)
  have hdg := last_dgs (lst p)
  have hnum : numL (lst p) < 10000000000000001 := by
    have h1 := numN_lt _ hdg
    have h2 : 10 ^ (lastS (lst p)).length ≤ 10 ^ 16 := Nat.pow_le_pow_right (by omega) h16l
    have h3 : 10 ^ 16 = 10000000000000000 := by decide
    unfold numL
    omega
  have cN := number_any (ba (lastS (lst p))) h16l hdg
  rw [show numN (lst (ba (lastS (lst p)))) = numL (lst p) from rfl] at cN
  obtain ⟨ANS, hANS⟩ : ∃ ANS, followsB (lst c) (lst p) k = ANS := ⟨_, rfl⟩
  rw [hANS]
  unfold followsB hasL at hANS
  have hsz : (ba (lastS (lst p))).size = (lastS (lst p)).length := rfl
  have hfz : (ba (preS (lst p))).size = (preS (lst p)).length := rfl
  obtain ⟨N, hN⟩ : ∃ N, numL (lst p) = N := ⟨_, rfl⟩
  rw [hN] at cN hnum hANS
  have hW := fun w => written_any (N + 1) k (by omega) hk w
  rw [show ((N + 1 : Nat) : Int) = (N : Int) + 1 by omega] at hW
  have hwl : (ba (wrS (N + 1) k)).size ≤ 20 := by
    have h1 := dec_len (N + 1) 17 (by omega) (by omega)
    show (wrS (N + 1) k).length ≤ 20
    rw [wr_len]
    omega
  by_cases h0 : 0 < (ba (lastS (lst p))).size
  · obtain ⟨x1, x2, x3, x4⟩ := str_no h0
    have hne : (lastS (lst p)).isEmpty = false := by
      cases h : lastS (lst p) with
      | nil => rw [h] at h0; exact absurd h0 (by decide)
      | cons a b => rfl
    rw [hne] at hANS
    generalize ba (lastS (lst p)) = LA at *
    have hS : ba (preS (lst p)) ++ ba (wrS (N + 1) k) = ba (preS (lst p) ++ wrS (N + 1) k) := by apply ByteArray.ext; simp [ba]
    have add1 : ∀ w, (Op.stringOp .add (ba (preS (lst p))) (ba (wrS (N + 1) k))).run Tryz.prog w = .ok (.string (ba (preS (lst p) ++ wrS (N + 1) k))) w := fun w => by
      rw [run_string_add_sum (w := w) _ _ (by omega), hS]
    have hw1 : IntKind.i64.wrap ((N : Int) + 1) = (N : Int) + 1 := IntWalk.i64_in _ (by omega)
    obtain ⟨S, hSS⟩ : ∃ S, ba (preS (lst p) ++ wrS (N + 1) k) = S := ⟨_, rfl⟩
    have hA2 : Hid (lst c = lst S → ANS = true) := hid (fun h => by
      rw [← hANS]
      rw [← hSS] at h
      simp
      exact h)
    have hA3 : Hid (¬ lst c = lst S → ANS = false) := hid (fun h => by
      rw [← hANS]
      rw [← hSS] at h
      simp
      exact h)
    rw [hSS] at add1
    generalize ba (preS (lst p)) = FR at *
    generalize ba (wrS (N + 1) k) = WR at *
    have CT := hid cT
    have CN := hid cN
    have CW := hid hW
    clear cT cN hW hS hSS hANS hdg h16l h16p hN hne hsz hfz
    rcases str_eq (a := c) (b := S) with ⟨he, t1, t2⟩ | ⟨he, t1, t2⟩
    · have hr := hA2.out he
      subst hr
      clear he hA2 hA3
      go_enter Tryz.func39, Tryz.ntmps39
      go_wp2_with fail
      refine (CT.out _).mono ?_
      rintro e w1 ⟨rfl, q, rfl⟩
      have HB1 : Hid (Below w.heap.size w (w.drewN q)) := hid (below_drewN (Below.refl _ _) q)
      go_wp2_with fail
      refine (CN.out _).mono ?_
      rintro e w2 ⟨rfl, rfl⟩
      go_wp2_with fail
      refine (CW.out _).mono ?_
      rintro e w3 ⟨rfl, hb3⟩
      have HB3 := hid (HB1.out.trans (hb3.mono HB1.out.size))
      clear hb3
      go_wp2
      go_ret
      exact ⟨rfl, HB3.out⟩
    · have hr := hA3.out he
      subst hr
      clear he hA2 hA3
      go_enter Tryz.func39, Tryz.ntmps39
      go_wp2_with fail
      refine (CT.out _).mono ?_
      rintro e w1 ⟨rfl, q, rfl⟩
      have HB1 : Hid (Below w.heap.size w (w.drewN q)) := hid (below_drewN (Below.refl _ _) q)
      go_wp2_with fail
      refine (CN.out _).mono ?_
      rintro e w2 ⟨rfl, rfl⟩
      go_wp2_with fail
      refine (CW.out _).mono ?_
      rintro e w3 ⟨rfl, hb3⟩
      have HB3 := hid (HB1.out.trans (hb3.mono HB1.out.size))
      clear hb3
      go_wp2
      go_ret
      exact ⟨rfl, HB3.out⟩
  · obtain ⟨x1, x2, x3, x4⟩ := str_yes h0
    have hne : (lastS (lst p)).isEmpty = true := by
      cases h : lastS (lst p) with
      | nil => rfl
      | cons a b => rw [h] at h0; exact absurd (Nat.succ_pos _) h0
    have hr : ANS = false := by rw [← hANS, hne]; rfl
    subst hr
    generalize ba (lastS (lst p)) = LA at *
    generalize ba (preS (lst p)) = FR at *
    have CT := hid cT
    clear cT cN hW hANS hdg h16l h16p hN hne hsz hfz
    go_enter Tryz.func39, Tryz.ntmps39
    go_wp2_with fail
    refine (CT.out _).mono ?_
    rintro e w1 ⟨rfl, q, rfl⟩
    have HB1 : Hid (Below w.heap.size w (w.drewN q)) := hid (below_drewN (Below.refl _ _) q)
    go_wp2
    go_ret
    exact ⟨rfl, HB1.out⟩
end Go.Proofs.YteckefolakjafaaGreatDoor.S3

set_option linter.unusedVariables false
namespace Go.Proofs.YteckefolakjafaaGreatDoor.S3
open Go Go.Proofs Go.RowKit Go.Lib

theorem nth_zero (f : Str) (h : hasL f = true) : nthS f 0 = f := by
  unfold nthS numL
  rw [Nat.add_zero]
  have hne : (lastS f).length ≠ 0 := fun e => by
    have := List.eq_nil_of_length_eq_zero e
    unfold hasL at h
    rw [this] at h
    simp at h
  obtain ⟨k, hk⟩ : ∃ k, (lastS f).length = k + 1 := ⟨(lastS f).length - 1, by omega⟩
  rw [wr_self k _ hk (last_dgs f), pre_split]
theorem follows_nth (f c : Str) (d : Nat) : followsB c (nthS f d) (lastS f).length = decide (c = nthS f (d + 1)) := by
  unfold followsB
  rw [has_nth, pre_nth, num_nth]
  simp only [Bool.true_and]
  rfl
theorem follows_none (f c : Str) (k : Nat) (h : hasL f = false) : followsB c f k = false := by
  unfold followsB
  rw [h]
  rfl
/-- Between two rounds of the inner loop: the run begins with f, i of its codes are passed, the last of them is p, r is the rest. -/
structure RunAt (f : Str) (r0 : List Str) (i : Nat) (p : Str) (r : List Str) : Prop where
  one : 1 ≤ i
  run : aheadM (f :: r0) = if hasL f = true then aheadGo f i r else 1
  prev : hasL f = true → p = nthS f (i - 1)
  no : hasL f = false → i = 1 ∧ p = f
theorem RunAt.start (f : Str) (r : List Str) : RunAt f r 1 f r :=
  ⟨Nat.le_refl _, rfl, fun h => (nth_zero f h).symm, fun _ => ⟨rfl, rfl⟩⟩
theorem RunAt.on {f p c : Str} {r0 r : List Str} {i : Nat} (h : RunAt f r0 i p (c :: r)) (hf : followsB c p (lastS f).length = true) : RunAt f r0 (i + 1) c r := by
  cases hh : hasL f with
  | false =>
    obtain ⟨_, rfl⟩ := h.no hh
    rw [follows_none _ _ _ hh] at hf
    cases hf
  | true =>
    have h1 := h.one
    rw [h.prev hh, follows_nth, show i - 1 + 1 = i by omega] at hf
    have hc : c = nthS f i := by simpa using hf
    refine ⟨by omega, ?_, fun _ => by rw [Nat.add_sub_cancel]; exact hc, fun e => by rw [hh] at e; cases e⟩
    rw [h.run, if_pos hh, if_pos hh]
    exact if_pos hc
theorem RunAt.off {f p c : Str} {r0 r : List Str} {i : Nat} (h : RunAt f r0 i p (c :: r)) (hf : followsB c p (lastS f).length = false) : aheadM (f :: r0) = i := by
  cases hh : hasL f with
  | false =>
    rw [h.run, if_neg (by rw [hh]; simp)]
    exact (h.no hh).1.symm
  | true =>
    have h1 := h.one
    rw [h.prev hh, follows_nth, show i - 1 + 1 = i by omega] at hf
    have hc : ¬ c = nthS f i := by simpa using hf
    rw [h.run, if_pos hh]
    exact if_neg hc
theorem RunAt.end_ {f p : Str} {r0 : List Str} {i : Nat} (h : RunAt f r0 i p []) : aheadM (f :: r0) = i := by
  cases hh : hasL f with
  | false =>
    rw [h.run, if_neg (by rw [hh]; simp)]
    exact (h.no hh).1.symm
  | true =>
    rw [h.run, if_pos hh]
    rfl
theorem semi_snoc : ∀ (ps : List Str) (p : Str), semi (ps ++ [p]) = if ps = [] then p else semi ps ++ 59 :: p
  | [], p => rfl
  | [q], p => rfl
  | q :: x :: r, p => by
    have ih := semi_snoc (x :: r) p
    rw [if_neg (by simp)] at ih ⊢
    show q ++ 59 :: semi (x :: (r ++ [p])) = (q ++ 59 :: semi (x :: r)) ++ 59 :: p
    rw [show x :: (r ++ [p]) = x :: r ++ [p] from rfl, ih]
    simp
end Go.Proofs.YteckefolakjafaaGreatDoor.S3

set_option linter.unusedVariables false
namespace Go.Proofs.YteckefolakjafaaGreatDoor.S3
open Go Go.Proofs Go.RowKit Go.Lib

theorem expand_range (a : Str) (n : Nat) (h1 : 1 ≤ n) (h : hasL a = true) : expandL a n = (List.range n).map (nthS a) := by
  obtain ⟨m, rfl⟩ : ∃ m, n = m + 1 := ⟨n - 1, by omega⟩
  unfold expandL
  rw [List.range_succ_eq_map, List.map_cons, nth_zero a h, Nat.add_sub_cancel, List.map_map]
  rfl
theorem cutNone {p : Str} (h : isP p = false) : befP p = p ∧ aftP p = [] := by
  unfold isP befP aftP Lib.cut at *
  by_cases hc : 0 ≤ Lib.index p dots2
  · rw [if_pos hc] at h; simp at h
  · rw [if_neg hc]; exact ⟨rfl, rfl⟩
theorem contains_nil : Lib.contains [] dots2 = false := by decide
theorem part_form {p : Str} {m : Int} (h : p = [] ∨ 1 < cntD p) {n a : Int} (hd : DotsAt p n a) : partM p m = ([], 4) := by
  unfold partM
  rw [if_pos]
  rcases h with h | h
  · exact .inl h
  · obtain ⟨_, k, _, _, _, _, hc⟩ := hd.yes (by omega)
    right
    rw [hc]
    exact decide_eq_true h
theorem partOne {p : Str} {m : Int} (hne : p ≠ []) (h : cntD p = 0) {n a : Int} (hd : DotsAt p n a) : partM p m = if validC p = false then ([], 10) else if m < 1 then ([], 2) else ([p], 0) := by
  have hi := hd.no h
  obtain ⟨hb, ha⟩ := cutNone hi
  unfold partM nP
  rw [hi, hb, ha, contains_nil, if_neg (by rintro (h | h); exact hne h; simp at h)]
  by_cases hv : validC p = false
  · rw [if_pos (.inl hv), if_pos hv]
  · rw [if_neg (by rintro (h | h); exact hv h; simp at h), if_neg hv]
    simp [expandL]
theorem part_two {p : Str} {m : Int} (hne : p ≠ []) (h : cntD p = 1) {n a : Int} (hd : DotsAt p n a) (hm : m ≤ 64) : partM p m = if validC (befP p) = false ∨ validC (aftP p) = false then ([], 10) else if rangeN (befP p) (aftP p) = 0 then ([], 3) else if m < (rangeN (befP p) (aftP p) : Int) then ([], 2) else ((List.range (rangeN (befP p) (aftP p))).map (nthS (befP p)), 0) := by
  obtain ⟨hi, k, _, _, _, _, hc⟩ := hd.yes (by omega)
  rw [h] at hc
  unfold partM nP
  rw [hi, hc, if_neg (by rintro (h | h); exact hne h; simp at h)]
  by_cases hv : validC (befP p) = false ∨ validC (aftP p) = false
  · rw [if_pos hv, if_pos (by rcases hv with h | h; exact .inl h; exact .inr ⟨rfl, h⟩)]
  · rw [if_neg hv, if_neg (by rintro (h | h); exact hv (.inl h); exact hv (.inr h.2))]
    simp only [if_true]
    by_cases h0 : rangeN (befP p) (aftP p) = 0
    · rw [if_pos h0, if_pos h0]
    · rw [if_neg h0, if_neg h0]
      have hh : hasL (befP p) = true := by
        unfold rangeN at h0
        split at h0
        · rename_i h; exact h.1
        · exact absurd rfl h0
      rw [expand_range _ _ (by omega) hh]
theorem list_err {s : Str} {ps : List Str} {p : Str} {rest L : List Str} {e : Int} (hs : s ≠ []) (hsp : splitL s = ps ++ p :: rest) (hg : listGo ps [] = (L, 0)) (hp : partM p (64 - (L.length : Int)) = ([], e)) (he : e ≠ 0) : listM s = ([], e) := by
  have h1 : listGo (splitL s) [] = ([], e) := by
    rw [hsp, listGo_app _ _ _ (by rw [hg]), hg]
    simp [listGo, hp, he]
  unfold listM
  rw [if_neg hs, h1, if_pos he]
theorem list_step {ps : List Str} {p : Str} {L M : List Str} (hg : listGo ps [] = (L, 0)) (hp : partM p (64 - (L.length : Int)) = (M, 0)) : listGo (ps ++ [p]) [] = (L ++ M, 0) := by
  rw [listGo_app _ _ _ (by rw [hg]), hg]
  simp [listGo, hp]
theorem list_end_ {s : Str} {L : List Str} (hs : s ≠ []) (hg : listGo (splitL s) [] = (L, 0)) : listM s = if checkM L ≠ 0 then ([], checkM L) else (L, 0) := by
  unfold listM
  rw [if_neg hs, hg, if_neg (by simp)]
end Go.Proofs.YteckefolakjafaaGreatDoor.S3

