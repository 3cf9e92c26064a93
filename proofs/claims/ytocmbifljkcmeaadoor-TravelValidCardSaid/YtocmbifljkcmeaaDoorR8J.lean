/-
  Reading one field of a way: a code, a number of slots. Conditions: the library's variable holds an error.
-/
import Derived.Test.YtocmbifljkcmeaaDoorR8R
import Derived.Test.YtocmbifljkcmeaaDoorR8A
import Derived.Test.YtocmbifljkcmeaaDoorShelf
import Derived.Test.YtocmbifljkcmeaaDoorBC
import Derived.Test.YtocmbifljkcmeaaDoorBG
import Derived.Lib.AtoiErrMem
import Derived.Handy
set_option linter.unusedVariables false
namespace Go.Proofs.YtocmbifljkcmeaaDoor
open Go Go.Proofs Go.RowKit Go.Lib

/-- What the package-level variables hold. -/
structure Env8 (w : World) : Prop where
  ev : ∃ ev, w.cell? ⟨1, 0, none⟩ = some ev ∧ (ev = .nilIface ∨ ∃ te pe, ev = .iface te pe)
  size : 1 < w.heap.size
theorem Env8.below {w w' : World} (h : Env8 w) {B : Nat} (hb : Below B w w') (hB : 1 < B) : Env8 w' := by
  obtain ⟨ev, he, hk⟩ := h.ev
  have hs := h.size
  exact ⟨⟨ev, (hb.cell (p := ⟨1, 0, none⟩) (by show 1 < B; omega)).trans he, hk⟩, Nat.le_trans hs hb.size⟩
theorem lst_cons8 {s : ByteArray} (h : 0 < s.size) : ∃ r, lst s = s[0]'h :: r := by
  have hl : 0 < (lst s).length := by rw [← Lib.size_eq]; exact h
  cases hs : lst s with
  | nil => rw [hs] at hl; simp at hl
  | cons a r =>
    refine ⟨r, ?_⟩
    congr 1
    have h2 : (lst s)[0]? = some (s[0]'h) := by
      have h3 : 0 < s.data.size := h
      show s.data.toList[0]? = _
      rw [Array.getElem?_toList, Array.getElem?_eq_getElem h3]
      rfl
    rw [hs] at h2
    simpa using h2
theorem decFrom_not8 : ∀ (l : Str) (acc : Nat), l.all S3.dg = false → Lib.decFrom acc l = none
  | [], acc, h => by simp at h
  | c :: r, acc, h => by
    rw [Lib.decFrom]
    by_cases hc : S3.dg c = true
    · have h3 : 48 ≤ c.toNat ∧ c.toNat ≤ 57 := by simpa [S3.dg] using hc
      rw [show Lib.digitVal c = some (c.toNat - 48) by simp [Lib.digitVal, h3]]
      exact decFrom_not8 r _ (by rw [List.all_cons, hc, Bool.true_and] at h; exact h)
    · have h3 : ¬ (48 ≤ c.toNat ∧ c.toNat ≤ 57) := by simpa [S3.dg] using hc
      rw [show Lib.digitVal c = none by simp [Lib.digitVal]; omega]
theorem atoi_numT (s : Str) (a : UInt8) (r : Str) (hs : s = a :: r) (hl : s.length ≤ 2) (h : 48 ≤ a.toNat) : Lib.atoi s = if (numT s).2 = false then none else some (numT s).1 := by
  subst hs
  by_cases hd : (a :: r).all S3.dg = true
  · have hN : numT (a :: r) = (((S3.numN (a :: r) : Nat) : Int), true) := if_pos ⟨by simp, hl, hd⟩
    rw [hN, if_neg (by simp)]
    exact S3.atoi_num _ (by simp) (List.all_eq_true.1 hd)
  · have hN : numT (a :: r) = (0, false) := if_neg (fun k => hd k.2.2)
    rw [hN, if_pos rfl]
    have e1 : (a == 45) = false := by
      rw [beq_eq_false_iff_ne]
      rintro rfl
      simp at h
    have e2 : (a == 43) = false := by
      rw [beq_eq_false_iff_ne]
      rintro rfl
      simp at h
    unfold Lib.atoi
    dsimp only
    rw [e1, e2, if_neg (by simp), if_neg (by simp)]
    unfold Lib.decNat
    rw [if_neg (by simp), decFrom_not8 _ _ (by simpa using hd)]
    rfl
theorem numT_low {a : UInt8} {r : Str} (h : a.toNat < 48) : numT (a :: r) = (0, false) := by
  refine if_neg (fun k => ?_)
  have h1 : S3.dg a = true := (List.all_eq_true.1 k.2.2) a (by simp)
  have h3 : 48 ≤ a.toNat ∧ a.toNat ≤ 57 := by simpa [S3.dg] using h1
  omega
theorem numT_long {s : Str} (h : 2 < s.length) : numT s = (0, false) := if_neg (fun k => by omega)
theorem lst_nil8 {s : ByteArray} (h : ¬ 0 < s.size) : lst s = [] := List.eq_nil_of_length_eq_zero (by rw [← Lib.size_eq]; omega)
set_option maxHeartbeats 2000000 in
/-- ReadPadded of numerals at two digits. -/
theorem padded_any (s : ByteArray) (w : World) (hE : Env8 w) : Calls Tryd.prog 63 #[.string s, .int .i64 2] w fun e w' => e = .returned (.tuple #[.int .i64 (numT (lst s)).1, .bool (numT (lst s)).2]) ∧ Below w.heap.size w w' := by
  obtain ⟨⟨N, B⟩, hN⟩ : ∃ N, numT (lst s) = N := ⟨_, rfl⟩
  rw [hN]
  dsimp only
  by_cases h0 : 0 < s.size
  · obtain ⟨x1, x2, x3, x4⟩ := S3.str_no h0
    obtain ⟨r, hr⟩ := lst_cons8 h0
    by_cases h2 : s.size ≤ 2
    · have h2' : (s.size : Int) ≤ 2 := by omega
      have h2'' : ¬ (2 : Int) < s.size := by omega
      obtain ⟨a, ha⟩ : ∃ a, s[0]'h0 = a := ⟨_, rfl⟩
      rw [ha] at hr
      by_cases h3 : a.toNat < 48
      · have h3' : (a.toNat : Int) < 48 := by omega
        have : ((0 : Int), false) = (N, B) := by rw [← hN, hr, numT_low h3]
        obtain ⟨rfl, rfl⟩ := Prod.mk.inj this
        clear hN hr hE this
        go_enter Tryd.func63, Tryd.ntmps63
        go_wp2
        go_ret2
        exact ⟨rfl, Below.refl _ _⟩
      · have h3' : ¬ (a.toNat : Int) < 48 := by omega
        have hat := atoi_numT (lst s) a r hr (by rw [← Lib.size_eq]; exact h2) (by omega)
        have h00 : B = false → N = 0 := by
          intro hb
          subst hb
          unfold numT at hN
          split at hN
          · simp at hN
          · exact (Prod.mk.inj hN).1.symm
        have hrng := numT_rng (lst s)
        rw [hN] at hat hrng
        obtain ⟨ev, hev, hev2⟩ := hE.ev
        cases B with
        | false =>
          obtain rfl := h00 rfl
          rw [if_pos rfl] at hat
          have cA := hid (Tryd.strconv_Atoi_err s (by omega) hat ev w hev hev2)
          clear hN hr hE hat hev hev2 h00 hrng
          go_enter Tryd.func63, Tryd.ntmps63
          go_wp2_with fail
          refine cA.out.mono ?_
          rintro e w' ⟨M, rfl, _, _, hb⟩
          have HB := hid hb
          clear hb
          go_wp2
          go_ret2
          exact ⟨rfl, HB.out⟩
        | true =>
          rw [if_neg (by simp)] at hat
          have cA := hid (Tryd.strconv_Atoi s N (by omega) hat w)
          clear hN hr hE hat hev hev2 h00 hrng
          go_enter Tryd.func63, Tryd.ntmps63
          go_wp2_with fail
          refine cA.out.mono ?_
          rintro e w' ⟨rfl, t, hw⟩
          have HB : Hid (Below w.heap.size w w') := hid (by rw [hw]; exact Lib.bytesWorld_below _ _ _)
          clear hw
          go_wp2
          go_ret2
          exact ⟨rfl, HB.out⟩
    · have h2' : ¬ (s.size : Int) ≤ 2 := by omega
      have h2'' : (2 : Int) < s.size := by omega
      have : ((0 : Int), false) = (N, B) := by rw [← hN, numT_long (by rw [← Lib.size_eq]; omega)]
      obtain ⟨rfl, rfl⟩ := Prod.mk.inj this
      clear hN hr hE this
      go_enter Tryd.func63, Tryd.ntmps63
      go_wp2
      go_ret2
      exact ⟨rfl, Below.refl _ _⟩
  · obtain ⟨x1, x2, x3, x4⟩ := S3.str_yes h0
    have : ((0 : Int), false) = (N, B) := by rw [← hN, lst_nil8 h0]; rfl
    obtain ⟨rfl, rfl⟩ := Prod.mk.inj this
    clear hN hE this
    go_enter Tryd.func63, Tryd.ntmps63
    go_wp2
    go_ret2
    exact ⟨rfl, Below.refl _ _⟩
set_option maxHeartbeats 2000000 in
theorem tcode_any (s : ByteArray) (w : World) : Calls Tryd.prog 52 #[.string s] w fun e w' => e = .returned (.tuple #[.string (if S3.validC (lst s) = true then s else ⟨#[]⟩), .int .i64 (if S3.validC (lst s) = true then 0 else 10)]) ∧ w' = w := by
  have cV := fun w => S3.valid_any s w
  cases hv : S3.validC (lst s) with
  | false =>
    rw [show s.data.toList = lst s from rfl, hv] at cV
    rw [if_neg (by simp), if_neg (by simp)]
    clear hv
    go_enter Tryd.func52, Tryd.ntmps52
    go_wp2_with fail
    refine (cV _).mono ?_
    rintro e w' ⟨rfl, rfl⟩
    go_wp2
    go_ret2
    exact ⟨rfl, rfl⟩
  | true =>
    rw [show s.data.toList = lst s from rfl, hv] at cV
    rw [if_pos rfl, if_pos rfl]
    clear hv
    go_enter Tryd.func52, Tryd.ntmps52
    go_wp2_with fail
    refine (cV _).mono ?_
    rintro e w' ⟨rfl, rfl⟩
    go_wp2
    go_ret2
    exact ⟨rfl, rfl⟩
set_option maxHeartbeats 2000000 in
theorem tslots_any (s : ByteArray) (w : World) (hE : Env8 w) : Calls Tryd.prog 53 #[.string s] w fun e w' => e = .returned (.tuple #[.int .i64 (slotsM (lst s)).1, .int .i64 (slotsM (lst s)).2]) ∧ Below w.heap.size w w' := by
  have cP := padded_any s w hE
  unfold slotsM
  obtain ⟨⟨N, B⟩, hN⟩ : ∃ N, numT (lst s) = N := ⟨_, rfl⟩
  rw [hN] at cP ⊢
  dsimp only at cP ⊢
  have CP := hid cP
  clear cP hN hE
  cases B with
  | false =>
    rw [if_pos rfl]
    go_enter Tryd.func53, Tryd.ntmps53
    go_wp2_with fail
    refine CP.out.mono ?_
    rintro e w' ⟨rfl, hb⟩
    have HB := hid hb
    clear hb
    go_wp2
    go_ret2
    exact ⟨rfl, HB.out⟩
  | true =>
    rw [if_neg (by simp)]
    by_cases h24 : 24 < N
    · rw [if_pos h24]
      go_enter Tryd.func53, Tryd.ntmps53
      go_wp2_with fail
      refine CP.out.mono ?_
      rintro e w' ⟨rfl, hb⟩
      have HB := hid hb
      clear hb
      go_wp2
      go_ret2
      exact ⟨rfl, HB.out⟩
    · rw [if_neg h24]
      go_enter Tryd.func53, Tryd.ntmps53
      go_wp2_with fail
      refine CP.out.mono ?_
      rintro e w' ⟨rfl, hb⟩
      have HB := hid hb
      clear hb
      go_wp2
      go_ret2
      exact ⟨rfl, HB.out⟩
end Go.Proofs.YtocmbifljkcmeaaDoor
