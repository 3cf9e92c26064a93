/-
  The code's reader of layer 2: a field that is not quoted; the end of a quoted one; the next record. Conditions: the reader lies in memory; its text has at most 65536 bytes; the problems are a row of the call's own.
-/
import Derived.Test.YtcpkefjijinhiaaDoorCReport
set_option linter.unusedVariables false
namespace Go.Proofs.YtcpkefjijinhiaaDoor
open Go Go.Proofs Go.RowKit Go.Lib

theorem CKept.below {B g : Nat} {w w' : World} (h : Below w.heap.size w w') (hB : B ≤ w.heap.size) : CKept B g w w' :=
  ⟨h.os, h.tape, h.output, h.size, fun k hk _ => h.block k (by omega), fun k _ _ _ hc _ _ => h.block k (Array.getElem?_eq_some_iff.1 hc).1⟩
theorem CKept.drawn (B g : Nat) (w : World) (n : Nat) : CKept B g w (w.drewN n) := CKept.rolled (Rolled.drawn g w n)
theorem CRd.below {w w' : World} {g a : Nat} {S : ByteArray} {D Q : UInt8} {pv : Value} (h : CRd w g S D Q a pv) (hb : Below w.heap.size w w') : CRd w' g S D Q a pv :=
  h.rolled (hb.block g (Array.getElem?_eq_some_iff.1 h.cells).1)
theorem row_under {w w' : World} {B e z n : Nat} {v : Value} {xs : List Value} (h : w.ownsRow B e z v n xs) (hb : Below w.heap.size w w') : w'.ownsRow B e z v n xs := by
  obtain ⟨h1, h2⟩ := h
  refine ⟨h1, ?_⟩
  rcases h2 with h2 | ⟨k, cap, cur, hk, hg, hh, r⟩
  · exact .inl h2
  · exact .inr ⟨k, cap, cur, hk, hg, (hb.block k (Array.getElem?_eq_some_iff.1 hh).1).trans hh, r⟩
set_option maxHeartbeats 1000000 in
theorem clone_any (s : Str) (w : World) (hs : s.length ≤ 65536) : Calls Tryd.prog 81 #[strV s] w fun e w' => e = .returned (strV s) ∧ Below w.heap.size w w' := by
  have c := Tryd.stringslite_Clone ⟨s.toArray⟩ w (by show s.length ≤ _; omega)
  unfold strV
  generalize (⟨s.toArray⟩ : ByteArray) = T at *
  go_enter Tryd.func81, Tryd.ntmps81
  go_wp2_with fail
  refine c.mono ?_
  rintro e w' ⟨rfl, hb⟩
  go_wp2
  go_ret
  exact ⟨rfl, hb⟩
theorem lineS_take : ∀ s, lineS s = s.take (lineS s).length
  | [] => rfl
  | c :: r => by
    cases h : endL (c :: r) with
    | true => rw [(lineS_nil_iff _).2 h]; rfl
    | false => rw [lineS_cons c r h, List.length_cons, List.take_succ_cons, ← lineS_take r]
theorem before_take (D Q : UInt8) (s : Str) : bef Q (bef D (lineS s)) = s.take (bef Q (bef D (lineS s))).length := by
  have h1 := bef_take Q (bef D (lineS s))
  have h2 := bef_take D (lineS s)
  have h3 := lineS_take s
  have l1 := bef_le Q (bef D (lineS s))
  have l2 := bef_le D (lineS s)
  generalize bef Q (bef D (lineS s)) = p at *
  generalize bef D (lineS s) = t at *
  generalize lineS s = u at *
  conv => lhs; rw [← h1, ← h2, h3]
  rw [List.take_take, List.take_take]
  congr 1
  omega

theorem str_ne (l : Str) (h : l ≠ []) : ((⟨l.toArray⟩ : ByteArray).toList == []) = false := by
  rw [Lib.toList_data]
  show (l == []) = false
  simpa using h
theorem str_ne2 (l : Str) (h : l ≠ []) : ((⟨l.toArray⟩ : ByteArray).toList == (⟨#[]⟩ : ByteArray).toList) = false := by
  rw [Lib.toList_data, Lib.toList_data]
  show (l == []) = false
  simpa using h
theorem str_ne3 (l : Str) (h : l ≠ []) : (⟨l.toArray⟩ : ByteArray).toList.isEmpty = false := by
  rw [Lib.toList_data]
  show l.isEmpty = false
  cases l with
  | nil => exact absurd rfl h
  | cons x r => rfl
/-- What a text of a field comes to. -/
def TextOut (g B : Nat) (S : ByteArray) (D Q : UInt8) (ps : List Prob) (w : World) (r : FRes) (e : Ending) (w' : World) : Prop :=
  CKept B g w w' ∧ ∃ pv', CRd w' g S D Q r.place pv' ∧ match r with
  | .ok f x => e = .returned (.tuple #[strV f.text, .bool true]) ∧ ProbRow w' B pv' ps
  | .bad p x => (∃ t, e = .returned (.tuple #[strV t, .bool false])) ∧ ProbRow w' B pv' (ps ++ [p])

set_option maxHeartbeats 4000000 in
set_option maxRecDepth 100000 in
theorem plain_any (g a B : Nat) (S : ByteArray) (D Q : UInt8) (pv : Value) (ps : List Prob) (w : World) (h : CRd w g S D Q a pv) (hp : ProbRow w B pv ps) (hps : ps.length ≤ 1000000) (hBw : B ≤ w.heap.size) :
    Calls Tryd.prog 68 #[.pointer (some ⟨g, 0, none⟩)] w (TextOut g B S D Q ps w (plainP (lst S) D Q a)) := by
  have hsl : ((lst S).drop a).length ≤ 65536 := by rw [List.length_drop, ← Lib.size_eq]; have := h.small; omega
  have hll := lineS_len ((lst S).drop a)
  have htl := bef_le D (lineS ((lst S).drop a))
  have hbl := bef_le Q (bef D (lineS ((lst S).drop a)))
  have cR := fun n => restOfLine_any g a S D Q pv (w.drewN n) (h.drawn n)
  have cC := fun n => cut65 (lineS ((lst S).drop a)) D (w.drewN n) (by omega)
  have cC2 := fun w => cut65 (bef D (lineS ((lst S).drop a))) Q w (by omega)
  have htk := before_take D Q ((lst S).drop a)
  have hpl : plainP (lst S) D Q a = if has Q (bef D (lineS ((lst S).drop a))) = true then
      .bad ⟨lineOf (lst S) (a + (bef Q (bef D (lineS ((lst S).drop a)))).length), colP (lst S) (a + (bef Q (bef D (lineS ((lst S).drop a)))).length), 8⟩ (nxt (lst S) (a + (bef Q (bef D (lineS ((lst S).drop a)))).length))
    else .ok ⟨bef D (lineS ((lst S).drop a)), colP (lst S) a, false⟩ (a + (bef D (lineS ((lst S).drop a))).length) := rfl
  have hsz : (bef Q (bef D (lineS ((lst S).drop a)))).length + a ≤ S.size := by
    have : ((lst S).drop a).length = S.size - a := by rw [List.length_drop, ← Lib.size_eq]
    have := h.le
    omega
  generalize plainP (lst S) D Q a = R at hpl ⊢
  obtain ⟨t, ht⟩ : ∃ t, bef D (lineS ((lst S).drop a)) = t := ⟨_, rfl⟩
  rw [ht] at hpl htk hbl hsz htl
  simp only [ht] at cC cC2
  have htl2 : t.length ≤ 65536 := by omega
  obtain ⟨n, hn⟩ : ∃ n, (bef Q t).length = n := ⟨_, rfl⟩
  rw [hn] at hpl htk hsz
  have cP := fun w' (h' : CRd w' g S D Q a pv) => pass_any g a n S D Q pv w' h' (by omega)
  rw [← htk] at cP
  have hmiss := bef_miss Q t
  obtain ⟨v0, hv0⟩ : ∃ v, strV (lineS ((lst S).drop a)) = v := ⟨_, rfl⟩
  obtain ⟨v1, hv1⟩ : ∃ v, strV (aft D (lineS ((lst S).drop a))) = v := ⟨_, rfl⟩
  obtain ⟨v2, hv2⟩ : ∃ v, strV (bef Q t) = v := ⟨_, rfl⟩
  obtain ⟨v3, hv3⟩ : ∃ v, strV (aft Q t) = v := ⟨_, rfl⟩
  obtain ⟨hd, hhd⟩ : ∃ b, has D (lineS ((lst S).drop a)) = b := ⟨_, rfl⟩
  obtain ⟨hq, hhq⟩ : ∃ b, has Q t = b := ⟨_, rfl⟩
  obtain ⟨vt, hvt⟩ : ∃ v, strV t = v := ⟨_, rfl⟩
  simp only [hv0, hv1, hhd, hvt] at cR cC
  simp only [hv2, hv3, hhq, hvt] at cC2
  rw [hv2] at cP
  rw [hhq] at hpl hmiss
  have c4 := h.c4
  have c5 := h.c5
  have H := hid h
  have HP := hid hp
  have HBW := hid hBw
  have HPS := hid hps
  have HM := hid hmiss
  have HN := hid hn
  have HVT := hid hvt
  have HT2 := hid htl2
  have HPL := hid hpl
  have CP := hid cP
  clear h hp hBw hps hmiss hn hsl hll htl hbl ht htk hsz hv0 hv1 hv2 hv3 hhd hhq hpl cP htl2 hvt
  go_enter Tryd.func68, Tryd.ntmps68
  go_wp2_with fail
  go_quiet ((first | (go_at_call 52; with_reducible refine Calls.quiet_of (cR _)) | (go_at_call 65; with_reducible refine Calls.quiet_of (cC _))))
  have hC := H.out.drawn nq
  have hP := row_drawn HP.out nq
  have hK := CKept.drawn B g w nq
  have hB : B ≤ (w.drewN nq).heap.size := Nat.le_trans HBW.out hK.size
  clear cR cC H HP HBW c4 c5
  generalize w.drewN nq = w1 at hC hP hK hB ⊢
  have c5 := hC.c5
  have HC := hid hC
  have HP := hid hP
  have HK := hid hK
  clear hC hP hK
  go_wp2_with fail
  refine (cC2 _).mono ?_
  rintro e w2 ⟨rfl, n2, rfl⟩
  go_wp2_with fail
  refine (CP.out _ (HC.out.drawn n2)).mono ?_
  rintro e w2 ⟨rfl, hC2, hRo⟩
  have hR2 := (Rolled.drawn g w1 n2).trans hRo
  have hP2 := hR2.row HP.out (prob_ne HP.out HC.out.cells (by decide))
  have hK2 := HK.out.trans (CKept.rolled hR2)
  have hB2 : B ≤ w2.heap.size := by rw [hR2.size]; exact hB
  clear HP HC HK c5 hRo hR2 hB cC2 CP
  cases hq with
  | true =>
    go_wp2_with fail
    refine (giveUp_any g (a + n) B S D Q pv ps 8 w2 hC2 hP2 HPS.out hB2).mono ?_
    rintro e w3 ⟨rfl, pv', hC3, hP3, hK3⟩
    go_wp2
    go_ret2
    rw [HPL.out, if_pos (by simp)]
    exact ⟨hK2.trans hK3, pv', hC3, ⟨[], rfl⟩, hP3⟩
  | false =>
    go_wp2_with fail
    have cl := clone_any t w2 HT2.out
    rw [HVT.out] at cl
    refine cl.mono ?_
    rintro e w3 ⟨rfl, hb3⟩
    go_wp2
    go_ret2
    rw [HPL.out, if_neg (by simp)]
    refine ⟨hK2.trans (CKept.below hb3 hB2), pv, ?_, ?_, row_under hP2 hb3⟩
    · show CRd w3 g S D Q (a + t.length) pv
      rw [← HN.out, (HM.out (by simp)).1] at hC2
      exact hC2.below hb3
    · show _ = Ending.returned (Value.tuple #[strV t, Value.bool true])
      rw [HVT.out]
      rfl

set_option maxHeartbeats 4000000 in
theorem endQuoted_any (g a B : Nat) (S : ByteArray) (D Q : UInt8) (pv : Value) (ps : List Prob) (w : World) (h : CRd w g S D Q a pv) (hp : ProbRow w B pv ps) (hps : ps.length ≤ 1000000) (hBw : B ≤ w.heap.size) :
    Calls Tryd.prog 83 #[.pointer (some ⟨g, 0, none⟩)] w fun e w' => CKept B g w w' ∧ ∃ pv',
      ((endL ((lst S).drop a) = true ∨ ((lst S).drop a).head? = some D → e = .returned (.bool true) ∧ CRd w' g S D Q a pv' ∧ ProbRow w' B pv' ps) ∧
       (¬ (endL ((lst S).drop a) = true ∨ ((lst S).drop a).head? = some D) → e = .returned (.bool false) ∧ CRd w' g S D Q (nxt (lst S) a) pv' ∧ ProbRow w' B pv' (ps ++ [⟨lineOf (lst S) a, colP (lst S) a, 8⟩]))) := by
  have cR := restOfLine_any g a S D Q pv w h
  have cP := fun w => prefix_one (lineS ((lst S).drop a)) D w
  have hnil := lineS_nil_iff ((lst S).drop a)
  have hhd := lineS_head ((lst S).drop a) D
  generalize (lst S).drop a = s at *
  have H := hid h
  have HP := hid hp
  have HBW := hid hBw
  have HPS := hid hps
  clear h hp hBw hps
  by_cases he : endL s = true
  · have hl := hnil.2 he
    rw [hl] at cR
    clear cP hnil hhd hl
    have HE := hid he
    clear he
    unfold strV at cR
    go_enter Tryd.func83, Tryd.ntmps83
    go_wp2_with fail
    refine cR.mono ?_
    rintro e w1 ⟨rfl, q, rfl⟩
    go_wp2
    go_ret
    exact ⟨CKept.drawn B g w q, pv, fun _ => ⟨rfl, H.out.drawn q, row_drawn HP.out q⟩, fun h => absurd (.inl HE.out) h⟩
  · have hl : lineS s ≠ [] := fun e => he (hnil.1 e)
    have hhd' := hhd hl
    rw [hhd'] at cP
    obtain ⟨c, u, hcu⟩ : ∃ c u, lineS s = c :: u := by
      cases hls : lineS s with
      | nil => exact absurd hls hl
      | cons c u => exact ⟨c, u, rfl⟩
    have hne := str_ne _ hl
    have hne2 := str_ne2 _ hl
    have hne3 := str_ne3 _ hl
    have c4 : ∀ n, (w.drewN n).cell? ⟨g, 4, none⟩ = some (.string ⟨#[D]⟩) := fun n => (H.out.drawn n).c4
    have c4w := c4 0
    clear hnil hhd hl hhd' hcu
    unfold strV at cR cP
    generalize (⟨(lineS s).toArray⟩ : ByteArray) = T at *
    by_cases hh : s.head? = some D
    · have hb : (s.head? == some D) = true := by simpa using hh
      rw [hb] at cP
      have HE := hid hh
      clear hb hh he
      go_enter Tryd.func83, Tryd.ntmps83
      go_wp2_with fail
      refine cR.mono ?_
      rintro e w1 ⟨rfl, q, rfl⟩
      have c4q := c4 q
      go_wp2_with fail
      refine (cP _).mono ?_
      rintro e w1 ⟨rfl, rfl⟩
      go_wp2
      go_ret
      exact ⟨CKept.drawn B g w q, pv, fun _ => ⟨rfl, H.out.drawn q, row_drawn HP.out q⟩, fun h => absurd (.inr HE.out) h⟩
    · have hb : (s.head? == some D) = false := by simpa using hh
      rw [hb] at cP
      have HE : Hid (¬ (endL s = true ∨ s.head? = some D)) := hid (by rintro (h | h); exact he h; exact hh h)
      clear hb hh he
      go_enter Tryd.func83, Tryd.ntmps83
      go_wp2_with fail
      refine cR.mono ?_
      rintro e w1 ⟨rfl, q, rfl⟩
      have c4q := c4 q
      go_wp2_with fail
      refine (cP _).mono ?_
      rintro e w1 ⟨rfl, rfl⟩
      go_wp2_with fail
      refine (giveUp_any g a B S D Q pv ps 8 _ (H.out.drawn q) (row_drawn HP.out q) HPS.out (Nat.le_trans HBW.out (CKept.drawn B g w q).size)).mono ?_
      rintro e w3 ⟨rfl, pv', hC3, hP3, hK3⟩
      go_wp2
      go_ret
      exact ⟨(CKept.drawn B g w q).trans hK3, pv', fun h => absurd h HE.out, fun _ => ⟨rfl, hC3, hP3⟩⟩
end Go.Proofs.YtcpkefjijinhiaaDoor
