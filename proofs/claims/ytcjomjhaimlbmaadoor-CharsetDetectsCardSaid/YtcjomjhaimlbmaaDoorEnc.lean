/-
  What charset.Encode returns, for any string in any encoding. Conditions: the string has at most 140737488351232 bytes; the library's two tables hold what their initialisers lay.
-/
import Derived.Test.YtcjomjhaimlbmaaDoorEncSingle
set_option linter.unusedVariables false
namespace Go.Proofs.YtcjomjhaimlbmaaDoor
open Go Go.Proofs Go.RowKit Go.Lib

/-- What Encode hands back: bytes in a slice, and the error. -/
def Enc3 (W : World) (R : List UInt8) (err : Int) (e : Ending) (w' : World) : Prop :=
  ∃ A c, e = .returned (.tuple #[.slice A R.length c, .int .i64 err]) ∧ BIn w' w'.heap.size A R ∧ R.length ≤ c ∧ c ≤ 9223372036854775807 ∧ Below W.heap.size W w'
theorem Enc3.none_ {W w' : World} {err : Int} (h : Below W.heap.size W w') : Enc3 W [] err (.returned (.tuple #[.slice none 0 0, .int .i64 err])) w' := ⟨none, 0, rfl, .inl rfl, by simp, by omega, h⟩

theorem validString_any (s : ByteArray) (w : World) (hs : s.size ≤ 9223372036854775807) (hT : Lib.Utf8Tabs 0 1 w) :
    Calls Tryd.prog 24 #[.string s] w fun e w' => e = .returned (.bool (properB s.data.toList)) ∧ Below w.heap.size w w' := by
  rw [← proper_valid]
  exact Any.utf8_ValidString Tryd.lays196 s w hs hT

theorem enters33 : ∀ args w, (callFunc 33 args).run Tryd.prog w = .ok (.enter 33 args) w := enters_of Tryd.func33 (by kernel_rfl) rfl
theorem indexFunc_any (s : ByteArray) (g a : Nat) (w : World) (hc : w.cell? ⟨a, 0, none⟩ = some (.int .i32 (g : Int))) (ha : a < w.heap.size) :
    Calls Tryd.prog 25 #[.string s, .func (.func 33) #[] #[.pointer (some ⟨a, 0, none⟩)]] w fun e w' => (∃ I : Int, e = .returned (.int .i64 I) ∧ decide (0 ≤ I) = bigB g s.data.toList) ∧ Below w.heap.size w w' := by
  refine (Tryd.strings_IndexFunc 33 #[.pointer (some ⟨a, 0, none⟩)] enters33 (fun r => decide (g < r)) s w ?_).mono fun e w' ⟨he, hb⟩ => ⟨⟨_, he, idx_any g s⟩, hb⟩
  intro W x hb
  have hcW : W.cell? ⟨a, 0, none⟩ = some (.int .i32 (g : Int)) := (hb.cell (p := ⟨a, 0, none⟩) ha).trans hc
  have h := beyond_any (x : Int) (g : Int) a W hcW
  have e1 : decide ((g : Int) < (x : Int)) = decide (g < x) := by
    apply decide_eq_decide.2
    omega
  rw [e1] at h
  exact h.mono fun e w' ⟨he, hw⟩ => ⟨he, 0, hw.symm⟩

/-- '[]byte(s)' lays the string's bytes. -/
theorem bytes_laid (w : World) (s : ByteArray) (cap : Nat) (fr : Nat × Nat) : BIn (w.alloc (.cells (bytesRow s cap) 5 fr)) (w.heap.size + 1) (some ⟨w.heap.size, 0, none⟩) s.data.toList := by
  refine .inr ⟨w.heap.size, 0, rfl, by omega, fun j u hu => ?_⟩
  have hj : j < s.data.size := by
    have := (List.getElem?_eq_some_iff.1 hu).1
    simpa using this
  rw [Nat.zero_add, World.cell?_alloc_mark, bytesRow_at s cap j hj]
  rw [List.getElem?_eq_getElem (by simpa using hj)] at hu
  simp at hu
  subst hu
  rfl

set_option maxHeartbeats 1000000 in
theorem encode_unknown (s : ByteArray) (k : Int) (h1 : (k == 1) = false) (h2 : (k == 2) = false) (h3 : (k == 3) = false) (w : World) :
    Calls Tryd.prog 12 #[.string s, .int .i64 k] w (Enc3 w [] 6) := by
  go_enter Tryd.func12, Tryd.ntmps12
  go_wp2_with (go_at_call 18; refine (greatestOf_no k h1 h2 h3 _).mono ?_; rintro e w' ⟨rfl, rfl⟩)
  go_ret2
  exact Enc3.none_ (Below.refl _ _)

set_option maxHeartbeats 2000000 in
set_option maxRecDepth 100000 in
theorem encode_1 (s : ByteArray) (hs : s.size ≤ 140737488351232) (w : World) (hT : Lib.Utf8Tabs 0 1 w) :
    Calls Tryd.prog 12 #[.string s, .int .i64 1] w (Enc3 w (resE 1 s.data.toList) (errE 1 s.data.toList)) := by
  have cV := validString_any s w (by omega) hT
  have hsl : s.data.toList.length = s.size := (Lib.size_eq s).symm
  obtain ⟨P, hP⟩ : ∃ P, properB s.data.toList = P := ⟨_, rfl⟩
  obtain ⟨B, hB⟩ : ∃ B, bigB 127 s.data.toList = B := ⟨_, rfl⟩
  have hE : errE 1 s.data.toList = (if P = true then (if B = true then 5 else if 65536 < (bytesE 1 s.data.toList).length then 2 else 0) else 4) := by
    unfold errE
    rw [if_pos (by omega), hP, show gOf 1 = 127 from rfl, hB]
  rw [hP] at cV
  have HE := hid hE
  have HB := hid hB
  have CV := hid cV
  have HSL := hid hsl
  clear hP hB hE cV hT hsl
  cases P with
  | false =>
    have he : errE 1 s.data.toList = 4 := HE.out
    have hr : resE 1 s.data.toList = [] := by unfold resE; rw [if_neg (by rw [he]; decide)]
    rw [he, hr]
    clear he hr
    go_enter Tryd.func12, Tryd.ntmps12
    go_wp2_with (first | (go_at_call 18; refine (greatestOf_1 _).mono ?_; rintro e w' ⟨rfl, rfl⟩) | (go_at_call 24; refine CV.out.mono ?_; rintro e w1 ⟨rfl, hb1⟩))
    go_ret2
    exact Enc3.none_ hb1
  | true =>
    go_enter Tryd.func12, Tryd.ntmps12
    go_wp2_with (go_at_call 18; refine (greatestOf_1 _).mono ?_; rintro e w' ⟨rfl, rfl⟩)
    go_wp2_with fail
    refine CV.out.mono ?_
    rintro e w1 ⟨rfl, hb1⟩
    go_wp2_with fail
    refine (above_any _ _).mono ?_
    rintro e w2 ⟨rfl, h2⟩
    have hb2 : Below w.heap.size w w2 := by rw [← h2]; exact hb1.alloc hb1.size _
    have hc2 : w2.cell? ⟨w1.heap.size, 0, none⟩ = some (.int .i32 ((127 : Nat) : Int)) := by rw [← h2]; simp
    have hl2 : w1.heap.size < w2.heap.size := by rw [← h2]; simp
    have cI := indexFunc_any s 127 w1.heap.size w2 hc2 hl2
    rw [HB.out] at cI
    have CI := hid cI
    clear h2 hc2 hl2 cI
    go_wp2_with fail
    refine CI.out.mono ?_
    rintro e w3 ⟨⟨I, rfl, hI⟩, hb23⟩
    have hb3 : Below w.heap.size w w3 := hb2.trans (hb23.mono hb2.size)
    clear hb23 hb2 hb1
    cases B with
    | true =>
      have hI0 : 0 ≤ I := of_decide_eq_true hI
      have he : errE 1 s.data.toList = 5 := HE.out
      have hr : resE 1 s.data.toList = [] := by unfold resE; rw [if_neg (by rw [he]; decide)]
      have HEe := hid he
      have HRr := hid hr
      clear he hr hI
      go_wp2
      go_ret2
      rw [HEe.out, HRr.out]
      exact Enc3.none_ hb3
    | false =>
      have hI0 : ¬ 0 ≤ I := of_decide_eq_false hI
      have k1 := run_bytes_of_string (P := Tryd.prog) w3 9 22 5 s Tryd.underlying9 Tryd.underlying22 Tryd.underlying5
      have hgc := grownCap_ge w3 s.size 0 5
      have hgm := grownCap_le_maxLen w3 s.size 0 5 (by unfold maxLen; omega)
      unfold maxLen at hgm
      obtain ⟨G, hG⟩ : ∃ G, grownCap w3 s.size 0 5 = G := ⟨_, rfl⟩
      rw [hG] at k1 hgc hgm
      have hbi := bytes_laid w3 s G ((bytesRow s G).size, (bytesRow s G).size + 1)
      obtain ⟨w4, h4⟩ : ∃ w4, w3.drew.alloc (.cells (bytesRow s G) 5 ((bytesRow s G).size, (bytesRow s G).size + 1)) = w4 := ⟨_, rfl⟩
      have h4' : (w3.alloc (.cells (bytesRow s G) 5 ((bytesRow s G).size, (bytesRow s G).size + 1))).drew = w4 := h4
      rw [h4] at k1
      have hbi4 : BIn w4 w4.heap.size (some ⟨w3.heap.size, 0, none⟩) s.data.toList := by
        rw [← h4']
        have : (w3.alloc (.cells (bytesRow s G) 5 ((bytesRow s G).size, (bytesRow s G).size + 1))).drew.heap.size = w3.heap.size + 1 := by
          show (w3.alloc (.cells (bytesRow s G) 5 ((bytesRow s G).size, (bytesRow s G).size + 1))).heap.size = _
          simp
        rw [this]
        exact hbi
      have hb4 : Below w.heap.size w w4 := by rw [← h4']; exact (hb3.alloc hb3.size _).drew
      clear h4 h4' hI hbi hG
      clear hbi4
      have cE := encodeSingle_any s hs w4
      obtain ⟨X, hX⟩ : ∃ X, encB s.data.toList = X := ⟨_, rfl⟩
      have hXl : X.length ≤ s.size := by rw [← hX, ← HSL.out]; exact encB_length _
      have hbl : bytesE 1 s.data.toList = X := hX
      rw [hX] at cE
      have CE := hid cE
      have HBL := hid hbl
      clear cE hX hbl
      go_wp2_with fail
      refine CE.out.mono ?_
      rintro e w5 ⟨v, rfl, hov, hb45⟩
      have hb5 : Below w.heap.size w w5 := hb4.trans (hb45.mono hb4.size)
      obtain ⟨A, c, rfl, hbi⟩ := owned_string hov
      have hcap : X.length ≤ c ∧ c ≤ 9223372036854775807 := by
        rcases hov.2 with ⟨hv, h0⟩ | ⟨g', cap, cur, hv, _, _, h1, h2, _⟩
        · injection hv with _ h1 h2; omega
        · injection hv with _ _ h3; unfold maxLen at h2; omega
      clear hb45 hov hb4
      by_cases hbig : 65536 < X.length
      · have hbz : (65536 : Int) < (X.length : Int) := by omega
        have he : errE 1 s.data.toList = 2 := by rw [HE.out, HBL.out]; simp [hbig]
        have hr : resE 1 s.data.toList = [] := by unfold resE; rw [if_neg (by rw [he]; decide)]
        have HEe := hid he
        have HRr := hid hr
        clear he hr hbi
        go_wp2
        go_ret2
        rw [HEe.out, HRr.out]
        exact Enc3.none_ hb5
      · have hbz : ¬ (65536 : Int) < (X.length : Int) := by omega
        have he : errE 1 s.data.toList = 0 := by rw [HE.out, HBL.out]; simp [hbig]
        have hr : resE 1 s.data.toList = X := by unfold resE; rw [if_pos he]; exact HBL.out
        have HEe := hid he
        have HRr := hid hr
        clear he hr
        have HBI := hid hbi
        clear hbi
        go_wp2
        go_ret2
        rw [HEe.out, HRr.out]
        exact ⟨A, c, rfl, HBI.out, hcap.1, hcap.2, hb5⟩

set_option maxHeartbeats 2000000 in
set_option maxRecDepth 100000 in
theorem encode_2 (s : ByteArray) (hs : s.size ≤ 140737488351232) (w : World) (hT : Lib.Utf8Tabs 0 1 w) :
    Calls Tryd.prog 12 #[.string s, .int .i64 2] w (Enc3 w (resE 2 s.data.toList) (errE 2 s.data.toList)) := by
  have cV := validString_any s w (by omega) hT
  have hsl : s.data.toList.length = s.size := (Lib.size_eq s).symm
  obtain ⟨P, hP⟩ : ∃ P, properB s.data.toList = P := ⟨_, rfl⟩
  obtain ⟨B, hB⟩ : ∃ B, bigB 255 s.data.toList = B := ⟨_, rfl⟩
  have hE : errE 2 s.data.toList = (if P = true then (if B = true then 5 else if 65536 < (bytesE 2 s.data.toList).length then 2 else 0) else 4) := by
    unfold errE
    rw [if_pos (by omega), hP, show gOf 2 = 255 from rfl, hB]
  rw [hP] at cV
  have HE := hid hE
  have HB := hid hB
  have CV := hid cV
  have HSL := hid hsl
  clear hP hB hE cV hT hsl
  cases P with
  | false =>
    have he : errE 2 s.data.toList = 4 := HE.out
    have hr : resE 2 s.data.toList = [] := by unfold resE; rw [if_neg (by rw [he]; decide)]
    rw [he, hr]
    clear he hr
    go_enter Tryd.func12, Tryd.ntmps12
    go_wp2_with (first | (go_at_call 18; refine (greatestOf_2 _).mono ?_; rintro e w' ⟨rfl, rfl⟩) | (go_at_call 24; refine CV.out.mono ?_; rintro e w1 ⟨rfl, hb1⟩))
    go_ret2
    exact Enc3.none_ hb1
  | true =>
    go_enter Tryd.func12, Tryd.ntmps12
    go_wp2_with (go_at_call 18; refine (greatestOf_2 _).mono ?_; rintro e w' ⟨rfl, rfl⟩)
    go_wp2_with fail
    refine CV.out.mono ?_
    rintro e w1 ⟨rfl, hb1⟩
    go_wp2_with fail
    refine (above_any _ _).mono ?_
    rintro e w2 ⟨rfl, h2⟩
    have hb2 : Below w.heap.size w w2 := by rw [← h2]; exact hb1.alloc hb1.size _
    have hc2 : w2.cell? ⟨w1.heap.size, 0, none⟩ = some (.int .i32 ((255 : Nat) : Int)) := by rw [← h2]; simp
    have hl2 : w1.heap.size < w2.heap.size := by rw [← h2]; simp
    have cI := indexFunc_any s 255 w1.heap.size w2 hc2 hl2
    rw [HB.out] at cI
    have CI := hid cI
    clear h2 hc2 hl2 cI
    go_wp2_with fail
    refine CI.out.mono ?_
    rintro e w3 ⟨⟨I, rfl, hI⟩, hb23⟩
    have hb3 : Below w.heap.size w w3 := hb2.trans (hb23.mono hb2.size)
    clear hb23 hb2 hb1
    cases B with
    | true =>
      have hI0 : 0 ≤ I := of_decide_eq_true hI
      have he : errE 2 s.data.toList = 5 := HE.out
      have hr : resE 2 s.data.toList = [] := by unfold resE; rw [if_neg (by rw [he]; decide)]
      have HEe := hid he
      have HRr := hid hr
      clear he hr hI
      go_wp2
      go_ret2
      rw [HEe.out, HRr.out]
      exact Enc3.none_ hb3
    | false =>
      have hI0 : ¬ 0 ≤ I := of_decide_eq_false hI
      have k1 := run_bytes_of_string (P := Tryd.prog) w3 9 22 5 s Tryd.underlying9 Tryd.underlying22 Tryd.underlying5
      have hgc := grownCap_ge w3 s.size 0 5
      have hgm := grownCap_le_maxLen w3 s.size 0 5 (by unfold maxLen; omega)
      unfold maxLen at hgm
      obtain ⟨G, hG⟩ : ∃ G, grownCap w3 s.size 0 5 = G := ⟨_, rfl⟩
      rw [hG] at k1 hgc hgm
      have hbi := bytes_laid w3 s G ((bytesRow s G).size, (bytesRow s G).size + 1)
      obtain ⟨w4, h4⟩ : ∃ w4, w3.drew.alloc (.cells (bytesRow s G) 5 ((bytesRow s G).size, (bytesRow s G).size + 1)) = w4 := ⟨_, rfl⟩
      have h4' : (w3.alloc (.cells (bytesRow s G) 5 ((bytesRow s G).size, (bytesRow s G).size + 1))).drew = w4 := h4
      rw [h4] at k1
      have hbi4 : BIn w4 w4.heap.size (some ⟨w3.heap.size, 0, none⟩) s.data.toList := by
        rw [← h4']
        have : (w3.alloc (.cells (bytesRow s G) 5 ((bytesRow s G).size, (bytesRow s G).size + 1))).drew.heap.size = w3.heap.size + 1 := by
          show (w3.alloc (.cells (bytesRow s G) 5 ((bytesRow s G).size, (bytesRow s G).size + 1))).heap.size = _
          simp
        rw [this]
        exact hbi
      have hb4 : Below w.heap.size w w4 := by rw [← h4']; exact (hb3.alloc hb3.size _).drew
      clear h4 h4' hI hbi hG
      clear hbi4
      have cE := encodeSingle_any s hs w4
      obtain ⟨X, hX⟩ : ∃ X, encB s.data.toList = X := ⟨_, rfl⟩
      have hXl : X.length ≤ s.size := by rw [← hX, ← HSL.out]; exact encB_length _
      have hbl : bytesE 2 s.data.toList = X := hX
      rw [hX] at cE
      have CE := hid cE
      have HBL := hid hbl
      clear cE hX hbl
      go_wp2_with fail
      refine CE.out.mono ?_
      rintro e w5 ⟨v, rfl, hov, hb45⟩
      have hb5 : Below w.heap.size w w5 := hb4.trans (hb45.mono hb4.size)
      obtain ⟨A, c, rfl, hbi⟩ := owned_string hov
      have hcap : X.length ≤ c ∧ c ≤ 9223372036854775807 := by
        rcases hov.2 with ⟨hv, h0⟩ | ⟨g', cap, cur, hv, _, _, h1, h2, _⟩
        · injection hv with _ h1 h2; omega
        · injection hv with _ _ h3; unfold maxLen at h2; omega
      clear hb45 hov hb4
      by_cases hbig : 65536 < X.length
      · have hbz : (65536 : Int) < (X.length : Int) := by omega
        have he : errE 2 s.data.toList = 2 := by rw [HE.out, HBL.out]; simp [hbig]
        have hr : resE 2 s.data.toList = [] := by unfold resE; rw [if_neg (by rw [he]; decide)]
        have HEe := hid he
        have HRr := hid hr
        clear he hr hbi
        go_wp2
        go_ret2
        rw [HEe.out, HRr.out]
        exact Enc3.none_ hb5
      · have hbz : ¬ (65536 : Int) < (X.length : Int) := by omega
        have he : errE 2 s.data.toList = 0 := by rw [HE.out, HBL.out]; simp [hbig]
        have hr : resE 2 s.data.toList = X := by unfold resE; rw [if_pos he]; exact HBL.out
        have HEe := hid he
        have HRr := hid hr
        clear he hr
        have HBI := hid hbi
        clear hbi
        go_wp2
        go_ret2
        rw [HEe.out, HRr.out]
        exact ⟨A, c, rfl, HBI.out, hcap.1, hcap.2, hb5⟩

set_option maxHeartbeats 2000000 in
set_option maxRecDepth 100000 in
theorem encode_3 (s : ByteArray) (hs : s.size ≤ 140737488351232) (w : World) (hT : Lib.Utf8Tabs 0 1 w) :
    Calls Tryd.prog 12 #[.string s, .int .i64 3] w (Enc3 w (resE 3 s.data.toList) (errE 3 s.data.toList)) := by
  have cV := validString_any s w (by omega) hT
  have hsl : s.data.toList.length = s.size := (Lib.size_eq s).symm
  obtain ⟨P, hP⟩ : ∃ P, properB s.data.toList = P := ⟨_, rfl⟩
  obtain ⟨B, hB⟩ : ∃ B, bigB 1114111 s.data.toList = B := ⟨_, rfl⟩
  have hE : errE 3 s.data.toList = (if P = true then (if B = true then 5 else if 65536 < (bytesE 3 s.data.toList).length then 2 else 0) else 4) := by
    unfold errE
    rw [if_pos (by omega), hP, show gOf 3 = 1114111 from rfl, hB]
  rw [hP] at cV
  have HE := hid hE
  have HB := hid hB
  have CV := hid cV
  have HSL := hid hsl
  clear hP hB hE cV hT hsl
  cases P with
  | false =>
    have he : errE 3 s.data.toList = 4 := HE.out
    have hr : resE 3 s.data.toList = [] := by unfold resE; rw [if_neg (by rw [he]; decide)]
    rw [he, hr]
    clear he hr
    go_enter Tryd.func12, Tryd.ntmps12
    go_wp2_with (first | (go_at_call 18; refine (greatestOf_3 _).mono ?_; rintro e w' ⟨rfl, rfl⟩) | (go_at_call 24; refine CV.out.mono ?_; rintro e w1 ⟨rfl, hb1⟩))
    go_ret2
    exact Enc3.none_ hb1
  | true =>
    go_enter Tryd.func12, Tryd.ntmps12
    go_wp2_with (go_at_call 18; refine (greatestOf_3 _).mono ?_; rintro e w' ⟨rfl, rfl⟩)
    go_wp2_with fail
    refine CV.out.mono ?_
    rintro e w1 ⟨rfl, hb1⟩
    go_wp2_with fail
    refine (above_any _ _).mono ?_
    rintro e w2 ⟨rfl, h2⟩
    have hb2 : Below w.heap.size w w2 := by rw [← h2]; exact hb1.alloc hb1.size _
    have hc2 : w2.cell? ⟨w1.heap.size, 0, none⟩ = some (.int .i32 ((1114111 : Nat) : Int)) := by rw [← h2]; simp
    have hl2 : w1.heap.size < w2.heap.size := by rw [← h2]; simp
    have cI := indexFunc_any s 1114111 w1.heap.size w2 hc2 hl2
    rw [HB.out] at cI
    have CI := hid cI
    clear h2 hc2 hl2 cI
    go_wp2_with fail
    refine CI.out.mono ?_
    rintro e w3 ⟨⟨I, rfl, hI⟩, hb23⟩
    have hb3 : Below w.heap.size w w3 := hb2.trans (hb23.mono hb2.size)
    clear hb23 hb2 hb1
    cases B with
    | true =>
      have hI0 : 0 ≤ I := of_decide_eq_true hI
      have he : errE 3 s.data.toList = 5 := HE.out
      have hr : resE 3 s.data.toList = [] := by unfold resE; rw [if_neg (by rw [he]; decide)]
      have HEe := hid he
      have HRr := hid hr
      clear he hr hI
      go_wp2
      go_ret2
      rw [HEe.out, HRr.out]
      exact Enc3.none_ hb3
    | false =>
      have hI0 : ¬ 0 ≤ I := of_decide_eq_false hI
      have k1 := run_bytes_of_string (P := Tryd.prog) w3 9 22 5 s Tryd.underlying9 Tryd.underlying22 Tryd.underlying5
      have hgc := grownCap_ge w3 s.size 0 5
      have hgm := grownCap_le_maxLen w3 s.size 0 5 (by unfold maxLen; omega)
      unfold maxLen at hgm
      obtain ⟨G, hG⟩ : ∃ G, grownCap w3 s.size 0 5 = G := ⟨_, rfl⟩
      rw [hG] at k1 hgc hgm
      have hbi := bytes_laid w3 s G ((bytesRow s G).size, (bytesRow s G).size + 1)
      obtain ⟨w4, h4⟩ : ∃ w4, w3.drew.alloc (.cells (bytesRow s G) 5 ((bytesRow s G).size, (bytesRow s G).size + 1)) = w4 := ⟨_, rfl⟩
      have h4' : (w3.alloc (.cells (bytesRow s G) 5 ((bytesRow s G).size, (bytesRow s G).size + 1))).drew = w4 := h4
      rw [h4] at k1
      have hbi4 : BIn w4 w4.heap.size (some ⟨w3.heap.size, 0, none⟩) s.data.toList := by
        rw [← h4']
        have : (w3.alloc (.cells (bytesRow s G) 5 ((bytesRow s G).size, (bytesRow s G).size + 1))).drew.heap.size = w3.heap.size + 1 := by
          show (w3.alloc (.cells (bytesRow s G) 5 ((bytesRow s G).size, (bytesRow s G).size + 1))).heap.size = _
          simp
        rw [this]
        exact hbi
      have hb4 : Below w.heap.size w w4 := by rw [← h4']; exact (hb3.alloc hb3.size _).drew
      clear h4 h4' hI hbi hG
      have hbl : (bytesE 3 s.data.toList).length = s.size := by show s.data.toList.length = _; exact HSL.out
      by_cases hbig : 65536 < s.size
      · have hbz : (65536 : Int) < (s.size : Int) := by omega
        have he : errE 3 s.data.toList = 2 := by rw [HE.out, hbl]; simp [hbig]
        have hr : resE 3 s.data.toList = [] := by unfold resE; rw [if_neg (by rw [he]; decide)]
        have HEe := hid he
        have HRr := hid hr
        clear he hr hbl hbi4
        go_wp2
        go_ret2
        rw [HEe.out, HRr.out]
        exact Enc3.none_ hb4
      · have hbz : ¬ (65536 : Int) < (s.size : Int) := by omega
        have he : errE 3 s.data.toList = 0 := by rw [HE.out, hbl]; simp [hbig]
        have hr : resE 3 s.data.toList = s.data.toList := by unfold resE; rw [if_pos he]; rfl
        have HEe := hid he
        have HRr := hid hr
        clear he hr hbl
        have HBI := hid hbi4
        clear hbi4
        go_wp2
        go_ret2
        rw [HEe.out, HRr.out]
        exact ⟨some ⟨w3.heap.size, 0, none⟩, G, by rw [HSL.out]; rfl, HBI.out, by rw [HSL.out]; exact hgc, hgm, hb4⟩

theorem errE_unknown (k : Int) (l : List UInt8) (hk : ¬ (k = 1 ∨ k = 2 ∨ k = 3)) : errE k l = 6 ∧ resE k l = [] := by
  have he : errE k l = 6 := if_neg hk
  exact ⟨he, by unfold resE; rw [if_neg (by rw [he]; decide)]⟩
theorem encode_any (s : ByteArray) (k : Int) (hs : s.size ≤ 140737488351232) (w : World) (hT : Lib.Utf8Tabs 0 1 w) :
    Calls Tryd.prog 12 #[.string s, .int .i64 k] w (Enc3 w (resE k s.data.toList) (errE k s.data.toList)) := by
  by_cases hk : k = 1 ∨ k = 2 ∨ k = 3
  · rcases hk with rfl | rfl | rfl
    · exact encode_1 s hs w hT
    · exact encode_2 s hs w hT
    · exact encode_3 s hs w hT
  · obtain ⟨he, hr⟩ := errE_unknown k s.data.toList hk
    rw [he, hr]
    have h1 : k ≠ 1 := fun h => hk (.inl h)
    have h2 : k ≠ 2 := fun h => hk (.inr (.inl h))
    have h3 : k ≠ 3 := fun h => hk (.inr (.inr h))
    exact encode_unknown s k (by simp [h1]) (by simp [h2]) (by simp [h3]) w
end Go.Proofs.YtcjomjhaimlbmaaDoor
