/-
  The code's check of layer 2: the first error of records, but for the length of their text. Conditions: the records lie in memory.
-/
import Derived.Test.YtcpkefjijinhiaaDoorFText
import Derived.Test.YtcpkefjijinhiaaDoorRefFormat
set_option linter.unusedVariables false
namespace Go.Proofs.YtcpkefjijinhiaaDoor
open Go Go.Proofs Go.RowKit Go.Lib

def chkGo : List (List Str) → Int
  | [] => 0
  | l :: r => if l.length = 0 then 16 else if 12 < l.length then 2 else chkGo r
def chkM (D Q : UInt8) (ls : List (List Str)) : Int := if validB D Q = true then (if 400 < ls.length then 2 else chkGo ls) else 1
def txtGo (D Q : UInt8) : List (List Str) → Str
  | [] => []
  | l :: r => rowF D Q (l.length == 1) 0 l ++ [10] ++ txtGo D Q r
theorem fmtGo_eq (D Q : UInt8) : ∀ (ls : List (List Str)) (acc : Str), fmtGo D Q acc ls = if chkGo ls = 0 then (if 65536 < (acc ++ txtGo D Q ls).length then ([], 2) else (acc ++ txtGo D Q ls, 0)) else ([], chkGo ls)
  | [], acc => by simp [fmtGo, chkGo, txtGo]
  | l :: r, acc => by
    unfold fmtGo chkGo
    split
    · simp
    · split
      · simp
      · rw [fmtGo_eq D Q r]
        have : acc ++ (rowF D Q (l.length == 1) 0 l ++ [10]) ++ txtGo D Q r = acc ++ txtGo D Q (l :: r) := by simp [txtGo]
        rw [this]
theorem fmtM_eq (D Q : UInt8) (ls : List (List Str)) : fmtM D Q ls = if chkM D Q ls = 0 then (if 65536 < (txtGo D Q ls).length then ([], 2) else (txtGo D Q ls, 0)) else ([], chkM D Q ls) := by
  unfold fmtM chkM
  split
  · split
    · simp
    · rw [fmtGo_eq]
      simp
  · simp
theorem chkGo_drop (ls : List (List Str)) (i : Nat) (hi : i < ls.length) : chkGo (ls.drop i) = if ls[i].length = 0 then 16 else if 12 < ls[i].length then 2 else chkGo (ls.drop (i + 1)) := by
  rw [List.drop_eq_getElem_cons hi]
  rfl

set_option maxHeartbeats 4000000 in
set_option maxRecDepth 100000 in
theorem check_any (A : Option Addr) (ls : List (List Str)) (c : Nat) (D Q : UInt8) (w : World) (h : RowsIn w (fun b => b < w.heap.size) A ls) (hl63 : ls.length ≤ 9223372036854775807) :
    Calls Tryd.prog 33 #[.slice A ls.length c, dialV D Q] w fun e w' => e = .returned (.int .i64 (chkM D Q ls)) ∧ Below w.heap.size w w' := by
  have cV := fun w => codeValid_any D Q w
  have hb0 := Below.alloc (Below.refl w.heap.size w) (Nat.le_refl _) (.cells #[.int .u8 D.toNat, .int .u8 Q.toNat] 23)
  obtain ⟨R, hR⟩ : ∃ R, chkM D Q ls = R := ⟨_, rfl⟩
  rw [hR]
  unfold chkM at hR
  have HB0 := hid hb0
  have HROW := hid h
  clear hb0 h
  unfold dialV at cV ⊢
  cases hv : validB D Q with
  | false =>
    rw [hv] at cV hR
    simp only [Bool.false_eq_true, if_false] at hR
    subst hR
    clear hv
    go_enter Tryd.func33, Tryd.ntmps33
    go_wp2_with fail
    refine (cV _).mono ?_
    rintro e w1 ⟨rfl, hb1⟩
    go_wp2
    go_ret
    exact ⟨rfl, HB0.out.trans (hb1.mono (by simp))⟩
  | true =>
    rw [hv] at cV hR
    simp only [if_true] at hR
    clear hv
    by_cases hbig : 400 < ls.length
    · rw [if_pos hbig] at hR
      subst hR
      have hbz : (400 : Int) < (ls.length : Int) := by omega
      go_enter Tryd.func33, Tryd.ntmps33
      go_wp2_with fail
      refine (cV _).mono ?_
      rintro e w1 ⟨rfl, hb1⟩
      go_wp2
      go_ret
      exact ⟨rfl, HB0.out.trans (hb1.mono (by simp))⟩
    · rw [if_neg hbig] at hR
      have hbz : ¬ (400 : Int) < (ls.length : Int) := by omega
      have HR := hid hR
      clear hR
      go_enter Tryd.func33, Tryd.ntmps33
      go_wp2_with fail
      refine (cV _).mono ?_
      rintro e w1 ⟨rfl, hb1⟩
      have HB1 := hid (HB0.out.trans (hb1.mono (by simp)))
      clear hb1 HB0 cV
      go_wp2
      go_loopw [17] (fun iv wx => wx = w1 ∧ ∃ i : Nat, iv = .int .i64 (i : Int) ∧ i ≤ ls.length ∧ Hid (chkGo (ls.drop i) = R)) (fun iv _ => ls.length - (RowKit.intOf iv).toNat)
      case atStart => exact ⟨rfl, 0, rfl, Nat.zero_le _, HR⟩
      case round =>
        obtain ⟨rfl, i, rfl, hi, hE⟩ := hrel
        by_cases hlt : i < ls.length
        · have hltz : (i : Int) < (ls.length : Int) := by omega
          obtain ⟨b, off, A', c', rfl, hbb, hcell1, hlc, hc63, hstr1⟩ := HROW.out.at_ hlt
          have hcell : wr.cell? ⟨b, off + i, none⟩ = some (.slice A' ls[i].length c') := (HB1.out.cell (p := ⟨b, off + i, none⟩) hbb).trans hcell1
          have hd := chkGo_drop ls i hlt
          rw [hE.out] at hd
          obtain ⟨n, hn⟩ : ∃ n, ls[i].length = n := ⟨_, rfl⟩
          rw [hn] at hd hcell
          clear hE hcell1 hstr1 hn hlc hc63
          have HD := hid hd
          clear hd
          by_cases h0 : n = 0
          · have h0b : ((n : Int) == 0) = true := by simp [h0]
            have hr : Hid (R = 16) := hid (by rw [HD.out, if_pos h0])
            have H0 := hid h0
            clear h0
            go_wp2
            go_ret
            exact ⟨by rw [hr.out]; rfl, HB1.out⟩
          · have h0b : ((n : Int) == 0) = false := by simpa using h0
            by_cases h12 : 12 < n
            · have h12z : (12 : Int) < (n : Int) := by omega
              have hr : Hid (R = 2) := hid (by rw [HD.out, if_neg h0, if_pos h12])
              go_wp2
              go_ret
              exact ⟨by rw [hr.out]; rfl, HB1.out⟩
            · have h12z : ¬ (12 : Int) < (n : Int) := by omega
              have hr : Hid (chkGo (ls.drop (i + 1)) = R) := hid (by rw [HD.out, if_neg h0, if_neg h12])
              go_wp2
              go_roundw
              case rel => exact ⟨by simp, i + 1, by go_num, by omega, hr⟩
              case measure => simp [RowKit.intOf]; omega
        · have hr : Hid (R = 0) := hid (by rw [← hE.out, List.drop_of_length_le (by omega)]; rfl)
          go_wp2
          go_ret
          exact ⟨by rw [hr.out]; rfl, HB1.out⟩
end Go.Proofs.YtcpkefjijinhiaaDoor
