/-
  The code's reader of layer 2: pass, passTo, skipLine, as functions of the place. Conditions: the reader lies in memory; its text has at most 65536 bytes.
-/
import Derived.Test.YtcpkefjijinhiaaDoorCRest
set_option linter.unusedVariables false
namespace Go.Proofs.YtcpkefjijinhiaaDoor
open Go Go.Proofs Go.RowKit Go.Lib

theorem data_at (s : Str) (j : Nat) (x : UInt8) (h : s[j]? = some x) : (⟨s.toArray⟩ : ByteArray).data[j]! = x := by
  show s.toArray[j]! = x
  rw [getElem!_def, List.getElem?_toArray, h]
theorem last_cases (s : Str) : (Lib.lastIndexByte ⟨s.toArray⟩ 10 = -1 ∧ ∀ (j : Nat) (x : UInt8), s[j]? = some x → x ≠ 10) ∨
    ∃ i : Nat, i < s.length ∧ Lib.lastIndexByte ⟨s.toArray⟩ 10 = (i : Int) ∧ s[i]? = some 10 ∧ ∀ (j : Nat) (x : UInt8), i < j → s[j]? = some x → x ≠ 10 := by
  have hsz : (⟨s.toArray⟩ : ByteArray).size = s.length := rfl
  have ne : ∀ (j : Nat) (x : UInt8), s[j]? = some x → (((⟨s.toArray⟩ : ByteArray).data[j]!).toNat : Int) ≠ 10 → x ≠ 10 := by
    intro j x hx h e
    rw [data_at s j x hx, e] at h
    exact h rfl
  rcases Lib.lastIdx_spec ⟨s.toArray⟩ 10 (⟨s.toArray⟩ : ByteArray).size with ⟨h1, h2⟩ | ⟨i, hi, h1, h2, h3⟩
  · exact .inl ⟨h1, fun j x hx => ne j x hx (h2 j (by rw [hsz]; exact (List.getElem?_eq_some_iff.1 hx).1))⟩
  · rw [hsz] at hi
    refine .inr ⟨i, hi, h1, ?_, fun j x hij hx => ne j x hx (h3 j hij (by rw [hsz]; exact (List.getElem?_eq_some_iff.1 hx).1))⟩
    obtain ⟨x, hx⟩ : ∃ x, s[i]? = some x := ⟨_, List.getElem?_eq_getElem hi⟩
    rw [data_at s i x hx] at h2
    rw [hx]
    congr 1
    exact UInt8.toNat_inj.1 (by show x.toNat = 10; omega)
theorem count_zero (s : Str) (h : ∀ (j : Nat) (x : UInt8), s[j]? = some x → x ≠ 10) : s.count 10 = 0 := by
  rw [List.count_eq_zero]
  intro hm
  obtain ⟨j, hj⟩ := List.mem_iff_getElem?.1 hm
  exact h j 10 hj rfl
theorem take_at (L : Str) (a n j : Nat) (hj : j < n) : ((L.drop a).take n)[j]? = L[a + j]? := by
  rw [List.getElem?_take_of_lt hj, List.getElem?_drop]
theorem CRd.pass0 {w : World} {g a : Nat} {S : ByteArray} {D Q : UInt8} {pv : Value} (h : CRd w g S D Q a pv) (n : Nat) (hn : a + n ≤ S.size) (hs : ∀ (j : Nat) (x : UInt8), (((lst S).drop a).take n)[j]? = some x → x ≠ 10) {p : Int} (hp : p = ((a + n : Nat) : Int)) :
    CRd (w.setCell ⟨g, 0, none⟩ (.int .i64 p)) g S D Q (a + n) pv := by
  subst hp
  have e1 : lineOf (lst S) (a + n) = lineOf (lst S) a := by rw [lineOf_add, count_zero _ hs, Nat.add_zero]
  have e2 : begOf (lst S) (a + n) = begOf (lst S) a := by
    refine begOf_none _ a (a + n) (by omega) fun j h1 h2 e => ?_
    refine hs (j - a) 10 ?_ rfl
    rw [take_at _ _ _ _ (by omega), show a + (j - a) = j by omega, e]
  refine ⟨?_, hn, h.small⟩
  rw [e1, e2, heap_setCell_same w g 0 _ _ _ h.cells]
  rfl
theorem CRd.pass1 {w : World} {g a : Nat} {S : ByteArray} {D Q : UInt8} {pv : Value} (h : CRd w g S D Q a pv) (n i : Nat) (hn : a + n ≤ S.size) (hi : (((lst S).drop a).take n)[i]? = some 10) (hin : i < n)
    (hs : ∀ (j : Nat) (x : UInt8), i < j → (((lst S).drop a).take n)[j]? = some x → x ≠ 10) {p l b : Int} (hp : p = ((a + n : Nat) : Int)) (hl : l = (lineOf (lst S) a : Int) + ((((lst S).drop a).take n).count 10 : Int)) (hb : b = ((a + i + 1 : Nat) : Int)) :
    CRd (((w.setCell ⟨g, 1, none⟩ (.int .i64 l)).setCell ⟨g, 2, none⟩ (.int .i64 b)).setCell ⟨g, 0, none⟩ (.int .i64 p)) g S D Q (a + n) pv := by
  have e1 : lineOf (lst S) (a + n) = lineOf (lst S) a + (((lst S).drop a).take n).count 10 := lineOf_add _ _ _
  have e2 : begOf (lst S) (a + n) = a + i + 1 := by
    refine begOf_some _ (a + i) (a + n) (by omega) ?_ fun j h1 h2 e => ?_
    · rw [take_at _ _ _ _ hin] at hi; exact hi
    · refine hs (j - a) 10 (by omega) ?_ rfl
      rw [take_at _ _ _ _ (by omega), show a + (j - a) = j by omega, e]
  rw [show (lineOf (lst S) a : Int) + ((((lst S).drop a).take n).count 10 : Int) = ((lineOf (lst S) a + (((lst S).drop a).take n).count 10 : Nat) : Int) by omega, ← e1] at hl
  rw [← e2] at hb
  subst hp hl hb
  refine ⟨?_, hn, h.small⟩
  have h1 := heap_setCell_same w g 1 _ _ (.int .i64 (lineOf (lst S) (a + n) : Int)) h.cells
  have h2 := heap_setCell_same _ g 2 _ _ (.int .i64 (begOf (lst S) (a + n) : Int)) h1
  rw [heap_setCell_same _ g 0 _ _ _ h2]
  rfl

set_option maxHeartbeats 2000000 in
theorem pass_any (g a n : Nat) (S : ByteArray) (D Q : UInt8) (pv : Value) (w : World) (h : CRd w g S D Q a pv) (hn : a + n ≤ S.size) :
    Calls Tryd.prog 57 #[.pointer (some ⟨g, 0, none⟩), strV (((lst S).drop a).take n)] w fun e w' => e = .returned (.tuple #[]) ∧ CRd w' g S D Q (a + n) pv ∧ Rolled g w w' := by
  have hsm := h.small
  have hlen : (((lst S).drop a).take n).length = n := by rw [List.length_take, List.length_drop, ← Lib.size_eq]; omega
  have cL := fun w => Tryd.strings_LastIndexByte ⟨(((lst S).drop a).take n).toArray⟩ 10 (by show (((lst S).drop a).take n).length < _; omega) w
  have cN := fun w => Tryd.strings_Count_one ⟨(((lst S).drop a).take n).toArray⟩ 10 w
  have hla := lineOf_le (lst S) a
  have hcl : (((lst S).drop a).take n).count 10 ≤ n := by have := List.count_le_length (a := (10 : UInt8)) (l := ((lst S).drop a).take n); omega
  have e1 : IntKind.i64.wrap ((a : Int) + (n : Int)) = (a : Int) + (n : Int) := IntWalk.i64_in _ (by omega)
  have h0 := h.c0
  have h1 := h.c1
  have f0 := h.free 0
  have f1 := h.free 1
  have f2 := h.free 2
  have hsz : (⟨(((lst S).drop a).take n).toArray⟩ : ByteArray).size = n := hlen
  rcases last_cases (((lst S).drop a).take n) with ⟨hl, hno⟩ | ⟨i, hi, hl, hat, hno⟩
  · have HC := hid ((h.pass0 n hn hno (p := (a : Int) + (n : Int)) (by omega)))
    simp only [hl] at cL
    clear h hno hl hlen hsm hla hcl cN
    unfold strV
    generalize (⟨(((lst S).drop a).take n).toArray⟩ : ByteArray) = B at *
    subst hsz
    go_enter Tryd.func57, Tryd.ntmps57
    go_wp2_with fail
    refine (cL _).mono ?_
    rintro e w1 ⟨rfl, rfl⟩
    go_wp2
    refine bodyPost_end (results_none rfl _ _ _) rfl ?_
    exact ⟨rfl, HC.out, Rolled.set g 0 _ _⟩
  · rw [hlen] at hi
    have hk : ((lst S).drop a).take n = ((lst S).drop a).take n := rfl
    obtain ⟨k, hk⟩ : ∃ k, (((lst S).drop a).take n).count 10 = k := ⟨_, rfl⟩
    have hcn : ∀ w, Calls Tryd.prog 71 #[.string ⟨(((lst S).drop a).take n).toArray⟩, .string ⟨#[10]⟩] w fun e w' => e = .returned (.int .i64 (k : Int)) ∧ w' = w := fun w => (cN w).mono fun e w' hh => ⟨by rw [hh.1, ← hk]; rfl, hh.2⟩
    have HC := hid ((h.pass1 n i hn hat hi hno (p := (a : Int) + (n : Int)) (l := (lineOf (lst S) a : Int) + (k : Int)) (b := (a : Int) + (i : Int) + 1) (by omega) (by rw [hk]) (by omega)))
    have e2 : IntKind.i64.wrap ((lineOf (lst S) a : Int) + (k : Int)) = (lineOf (lst S) a : Int) + (k : Int) := IntWalk.i64_in _ (by omega)
    have e3 : IntKind.i64.wrap ((a : Int) + (i : Int)) = (a : Int) + (i : Int) := IntWalk.i64_in _ (by omega)
    have e4 : IntKind.i64.wrap ((a : Int) + (i : Int) + 1) = (a : Int) + (i : Int) + 1 := IntWalk.i64_in _ (by omega)
    have hi0 : (0 : Int) ≤ (i : Int) := by omega
    have h2 := h.c2
    simp only [hl] at cL
    clear h hno hl hlen hsm hla hcl cN hat hk hi
    unfold strV
    generalize (⟨(((lst S).drop a).take n).toArray⟩ : ByteArray) = B at *
    subst hsz
    go_enter Tryd.func57, Tryd.ntmps57
    go_wp2_with fail
    refine (cL _).mono ?_
    rintro e w1 ⟨rfl, rfl⟩
    go_wp2
    go_region_with (go_at_call 71; refine (hcn _).mono ?_; rintro e w' ⟨rfl, rfl⟩)
    all_goals
      go_wp2
      refine bodyPost_end (results_none rfl _ _ _) rfl ?_
      exact ⟨rfl, HC.out.drawn 1, (((Rolled.set g 1 _ _).trans (Rolled.set g 2 _ _)).trans (Rolled.set g 0 _ _)).trans (Rolled.drawn g _ 1)⟩

set_option maxHeartbeats 2000000 in
theorem passTo_any (g a : Nat) (t : Str) (S : ByteArray) (D Q : UInt8) (pv : Value) (w : World) (h : CRd w g S D Q a pv) (ht : a + t.length ≤ S.size) :
    Calls Tryd.prog 67 #[.pointer (some ⟨g, 0, none⟩), strV t] w fun e w' => e = .returned (.tuple #[]) ∧ CRd w' g S D Q (S.size - t.length) pv ∧ Rolled g w w' := by
  have cR := rest_any g a S D Q pv w h
  have hsm := h.small
  have hlen : ((lst S).drop a).length = S.size - a := by rw [List.length_drop, ← Lib.size_eq]
  obtain ⟨n, hn⟩ : ∃ n, S.size - a - t.length = n := ⟨_, rfl⟩
  have hx : S.size - t.length = a + n := by omega
  have cP := fun w' (h' : CRd w' g S D Q a pv) => pass_any g a n S D Q pv w' h' (by omega)
  have hv : Value.string ((⟨((lst S).drop a).toArray⟩ : ByteArray).extract 0 n) = strV (((lst S).drop a).take n) := by
    rw [extract_val]
    show strV ((((lst S).drop a).drop 0).take (n - 0)) = _
    rw [List.drop_zero, Nat.sub_zero]
  have hsz : (⟨((lst S).drop a).toArray⟩ : ByteArray).size = S.size - a := hlen
  have hsz2 : (⟨t.toArray⟩ : ByteArray).size = t.length := rfl
  rw [hx]
  rw [← hv] at cP
  have e1 : IntKind.i64.wrap (((S.size - a : Nat) : Int) - (t.length : Int)) = (n : Int) := by rw [IntWalk.i64_in _ (by omega)]; omega
  have hn1 : (n : Int) ≤ ((S.size - a : Nat) : Int) := by omega
  have H := hid h
  clear h hv hx hlen hsm ht hn
  unfold strV at *
  generalize (⟨((lst S).drop a).toArray⟩ : ByteArray) = B at *
  generalize (⟨t.toArray⟩ : ByteArray) = T at *
  generalize S.size - a = m at *
  subst hsz
  generalize t.length = k at *
  subst hsz2
  have CP := hid cP
  clear cP
  go_enter Tryd.func67, Tryd.ntmps67
  go_wp2_with fail
  refine cR.mono ?_
  rintro e w1 ⟨rfl, q, rfl⟩
  go_wp2
  go_region_with (go_at_call 57; refine (CP.out _ ((H.out.drawn q).drawn 1)).mono ?_; rintro e w' ⟨rfl, hC, hRo⟩)
  all_goals
    go_wp2
    refine bodyPost_end (results_none rfl _ _ _) rfl ?_
    exact ⟨rfl, hC, ((Rolled.drawn g w q).trans (Rolled.drawn g _ 1)).trans hRo⟩

theorem nxt_aft (L : Str) (a : Nat) (h : a ≤ L.length) : L.length - (aft 10 (L.drop a)).length = nxt L a ∧ a + (aft 10 (L.drop a)).length ≤ L.length := by
  unfold nxt
  rw [eolN_bef]
  have hl : (L.drop a).length = L.length - a := List.length_drop
  cases hc : has 10 (L.drop a) with
  | true =>
    have h0 := congrArg List.length (bef_hit 10 _ hc)
    simp only [List.length_append, List.length_cons] at h0
    rw [if_pos (by omega)]
    omega
  | false =>
    obtain ⟨e1, e2⟩ := bef_miss 10 _ hc
    rw [e1, e2, hl, if_neg (by omega)]
    simp
    omega
set_option maxHeartbeats 2000000 in
theorem skip_any (g a : Nat) (S : ByteArray) (D Q : UInt8) (pv : Value) (w : World) (h : CRd w g S D Q a pv) :
    Calls Tryd.prog 53 #[.pointer (some ⟨g, 0, none⟩)] w fun e w' => e = .returned (.tuple #[]) ∧ CRd w' g S D Q (nxt (lst S) a) pv ∧ Rolled g w w' := by
  have cR := rest_any g a S D Q pv w h
  have hlen : ((lst S).drop a).length ≤ 65536 := by rw [List.length_drop, ← Lib.size_eq]; have := h.small; omega
  have cC := fun w => cut65 ((lst S).drop a) 10 w hlen
  obtain ⟨hx, ht⟩ := nxt_aft (lst S) a (by rw [← Lib.size_eq]; exact h.le)
  rw [← Lib.size_eq] at hx ht
  have cT := fun w' (h' : CRd w' g S D Q a pv) => passTo_any g a (aft 10 ((lst S).drop a)) S D Q pv w' h' ht
  rw [hx] at cT
  have H := hid h
  clear h hlen hx ht
  generalize (lst S).drop a = s at *
  obtain ⟨v0, hv0⟩ : ∃ v, strV s = v := ⟨_, rfl⟩
  obtain ⟨v1, hv1⟩ : ∃ v, strV (bef 10 s) = v := ⟨_, rfl⟩
  obtain ⟨v2, hv2⟩ : ∃ v, strV (aft 10 s) = v := ⟨_, rfl⟩
  rw [hv0] at cR
  simp only [hv0, hv1, hv2] at cC cT
  clear hv0 hv1 hv2
  have CT := hid cT
  clear cT
  go_enter Tryd.func53, Tryd.ntmps53
  go_wp2_with fail
  refine cR.mono ?_
  rintro e w1 ⟨rfl, q1, rfl⟩
  go_wp2_with fail
  refine (cC _).mono ?_
  rintro e w1 ⟨rfl, q2, rfl⟩
  go_wp2_with fail
  refine (CT.out _ (H.out.drawn _)).mono ?_
  rintro e w1 ⟨rfl, hC, hRo⟩
  go_wp2
  refine bodyPost_end (results_none rfl _ _ _) rfl ?_
  exact ⟨rfl, hC, (Rolled.drawn g w _).trans hRo⟩
end Go.Proofs.YtcpkefjijinhiaaDoor
