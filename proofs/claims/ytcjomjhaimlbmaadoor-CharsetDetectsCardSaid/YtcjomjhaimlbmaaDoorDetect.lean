/-
  What charset.Detect returns, for any slice of bytes. Conditions: the bytes lie in memory; the library's two tables hold what their initialisers lay.
-/
import Derived.Test.YtcjomjhaimlbmaaDoorDetLib
import Derived.Test.YtcjomjhaimlbmaaDoorValid
set_option linter.unusedVariables false
namespace Go.Proofs.YtcjomjhaimlbmaaDoor
open Go Go.Proofs Go.RowKit Go.Lib

theorem valid29_any (A : Option Addr) (l : List UInt8) (c : Nat) (hlc : l.length ≤ c) (hl63 : l.length ≤ 9223372036854775807) (hne : l ≠ []) (w : World) (hb : BIn w w.heap.size A l) (hT : Lib.Utf8Tabs 0 1 w) :
    Calls Tryd.prog 29 #[.slice A l.length c] w fun e w' => e = .returned (.bool (properB l)) ∧ Below w.heap.size w w' := by
  obtain ⟨b, off, rfl, hB⟩ := hb.bytesAt hne
  have hs : (⟨l.toArray⟩ : ByteArray).size = l.length := by show l.toArray.size = _; simp
  have h := valid_any (⟨l.toArray⟩ : ByteArray) b off c w (by omega) (by omega) hT hB
  rw [hs] at h
  rw [← proper_valid]
  exact h

set_option maxHeartbeats 2000000 in
set_option maxRecDepth 100000 in
theorem detect_any (A : Option Addr) (l : List UInt8) (c : Nat) (hlc : l.length ≤ c) (hl63 : l.length ≤ 9223372036854775807) (w : World) (hb : BIn w w.heap.size A l) (hT : Lib.Utf8Tabs 0 1 w) :
    Calls Tryd.prog 14 #[.slice A l.length c] w fun e w' => e = .returned (.int .i64 (detB l)) ∧ Below w.heap.size w w' := by
  have cD := decodeRune_any A l c w hb hT
  obtain ⟨M, hM⟩ : ∃ M, markB l = M := ⟨_, rfl⟩
  rw [hM] at cD
  cases M with
  | true =>
    have hd : detB l = 3 := if_pos hM
    rw [hd]
    clear hM hd hb hT
    have CD := hid cD
    clear cD
    go_enter Tryd.func14, Tryd.ntmps14
    go_wp2_with fail
    refine CD.out.mono ?_
    rintro e w1 ⟨⟨R, K, rfl, hR⟩, hb1⟩
    go_wp2
    go_ret
    exact ⟨rfl, hb1⟩
  | false =>
    have hd : detB l = if ascB l = true then 1 else if properB l = true then 3 else 2 := if_neg (by rw [hM]; simp)
    have HD := hid hd
    have CD := hid cD
    clear hM hd cD
    have HL := hid hlc
    clear hlc
    go_enter Tryd.func14, Tryd.ntmps14
    go_wp2_with fail
    refine CD.out.mono ?_
    rintro e w1 ⟨⟨R, K, rfl, hR⟩, hb1⟩
    go_wp2_with fail
    refine (above_any _ _).mono ?_
    rintro e w2 ⟨rfl, h2⟩
    have hb2 : Below w.heap.size w w2 := by rw [← h2]; exact hb1.alloc hb1.size _
    have hc2 : w2.cell? ⟨w1.heap.size, 0, none⟩ = some (.int .i32 ((127 : Nat) : Int)) := by rw [← h2]; simp
    have hl2 : w1.heap.size < w2.heap.size := by rw [← h2]; simp
    have hbb := hb.below hb2
    have cI := indexFunc28_any A l c HL.out hl63 127 w1.heap.size w2 (hbb.mono hb2.size) (Utf8Tabs_below hT hb2) hc2 hl2
    rw [bigB_asc] at cI
    obtain ⟨S, hS⟩ : ∃ S, ascB l = S := ⟨_, rfl⟩
    rw [hS] at cI
    have CI := hid cI
    clear h2 hc2 hl2 cI
    go_wp2_with fail
    refine CI.out.mono ?_
    rintro e w3 ⟨⟨I, rfl, hI⟩, hb23⟩
    have hb3 : Below w.heap.size w w3 := hb2.trans (hb23.mono hb2.size)
    clear hb23 hb2 hb1 hbb
    cases S with
    | true =>
      have hI0 : I < 0 := by have := of_decide_eq_false hI; omega
      have h1 : detB l = 1 := by rw [HD.out, if_pos hS]
      have H1 := hid h1
      clear hI hb hT h1 hS HD
      go_wp2
      go_ret
      rw [H1.out]
      exact ⟨rfl, hb3⟩
    | false =>
      have hI0 : ¬ I < 0 := by have := of_decide_eq_true hI; omega
      have hne : l ≠ [] := fun h => by rw [h] at hS; exact absurd hS (by decide)
      have cV := valid29_any A l c HL.out hl63 hne w3 ((hb.below hb3).mono hb3.size) (Utf8Tabs_below hT hb3)
      have h1 : detB l = if properB l = true then 3 else 2 := by rw [HD.out, if_neg (by rw [hS]; simp)]
      obtain ⟨P, hP⟩ : ∃ P, properB l = P := ⟨_, rfl⟩
      rw [hP] at cV h1
      have CV := hid cV
      have H1 := hid h1
      clear cV hI hb hT hS hP hne h1 HD
      cases P with
      | true =>
        go_wp2_with fail
        refine CV.out.mono ?_
        rintro e w4 ⟨rfl, hb4⟩
        go_wp2
        go_ret
        rw [H1.out]
        exact ⟨rfl, hb3.trans (hb4.mono hb3.size)⟩
      | false =>
        go_wp2_with fail
        refine CV.out.mono ?_
        rintro e w4 ⟨rfl, hb4⟩
        go_wp2
        go_ret
        rw [H1.out]
        exact ⟨rfl, hb3.trans (hb4.mono hb3.size)⟩
end Go.Proofs.YtcjomjhaimlbmaaDoor
