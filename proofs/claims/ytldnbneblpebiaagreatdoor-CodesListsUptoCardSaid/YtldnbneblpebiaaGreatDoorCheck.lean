/-
  The first error of a list of codes: the program's check. Conditions: the strings lie in memory.
-/
import Derived.Test.YtldnbneblpebiaaGreatDoorExpand
set_option linter.unusedVariables false
namespace Go.Proofs.YtldnbneblpebiaaGreatDoor
open Go Go.Proofs Go.RowKit Go.Lib

def checkGo : List Str → List Str → Int
  | _, [] => 0
  | seen, c :: r => if validC c = false then 10 else if c ∈ seen then 11 else checkGo (seen ++ [c]) r
/-- The first error of a list of codes. -/
def checkM (l : List Str) : Int := if 64 < l.length then 2 else checkGo [] l
theorem checkGo_step (l : List Str) (i : Nat) (h : i < l.length) : checkGo (l.take i) (l.drop i) = if validC l[i] = false then 10 else if l[i] ∈ l.take i then 11 else checkGo (l.take (i + 1)) (l.drop (i + 1)) := by
  rw [List.drop_eq_getElem_cons h, checkGo, List.take_succ_eq_append_getElem h]
def ba (s : Str) : ByteArray := ⟨s.toArray⟩
theorem ba_inj {a b : Str} (h : ba a = ba b) : a = b := by
  have := congrArg lst h
  exact this
theorem contains_ba (l : List Str) (i : Nat) (s : Str) : Lib.containsS ((l.map ba).take i) (ba s) = decide (s ∈ l.take i) := by
  rw [Bool.eq_iff_iff, Lib.containsS_iff, decide_eq_true_eq, ← List.map_take]
  constructor
  · intro h
    obtain ⟨x, hx, e⟩ := List.mem_map.1 h
    rw [← ba_inj e]
    exact hx
  · exact fun h => List.mem_map_of_mem h

set_option maxHeartbeats 4000000 in
set_option maxRecDepth 100000 in
theorem check_any (A : Option Addr) (l : List Str) (c : Nat) (Pp : Nat → Prop) (w : World) (h : StrsIn w Pp A l) (hlc : l.length ≤ c) (hc : c ≤ 9223372036854775807) :
    Calls Tryz.prog 45 #[.slice A l.length c] w fun e w' => e = .returned (.int .i64 (checkM l)) ∧ w = w' := by
  obtain ⟨R, hR⟩ : ∃ R, checkM l = R := ⟨_, rfl⟩
  rw [hR]
  by_cases h64 : 64 < l.length
  · have hz : (64 : Int) < (l.length : Int) := by omega
    have hr : Hid (R = 2) := hid (by rw [← hR]; exact if_pos h64)
    clear hR h
    go_enter Tryz.func45, Tryz.ntmps45
    go_wp2
    go_ret
    rw [hr.out]
    exact ⟨rfl, rfl⟩
  · have hz : ¬ (64 : Int) < (l.length : Int) := by omega
    have hr : Hid (R = checkGo (l.take 0) (l.drop 0)) := hid (by rw [← hR]; exact if_neg h64)
    have H := hid h
    clear hR h
    go_enter Tryz.func45, Tryz.ntmps45
    go_wp2
    go_loop [3, 4, 10] (fun _ _ iv => ∃ i : Nat, iv = .int .i64 (i : Int) ∧ i ≤ l.length ∧ Hid (R = checkGo (l.take i) (l.drop i))) (fun _ _ iv => l.length - (RowKit.intOf iv).toNat)
    case atStart => exact ⟨0, rfl, Nat.zero_le _, hr⟩
    case round =>
      obtain ⟨i, rfl, hi, hE⟩ := hrel
      by_cases hlt : i < l.length
      · have hltz : (i : Int) < (l.length : Int) := by omega
        have hst := hid (checkGo_step l i hlt)
        obtain ⟨b, off, rfl, _, hc0⟩ := H.out.at_ hlt
        have hcell : ∀ j, j < (l.map ba).length → w.cell? ⟨b, off + j, none⟩ = some (.string ((l.map ba).getD j ByteArray.empty)) := fun j hj => by
          have hj' : j < l.length := by simpa using hj
          obtain ⟨b', off', e, _, hc'⟩ := H.out.at_ hj'
          injection e with e
          injection e with e1 e2 _
          subst e1 e2
          rw [hc']
          simp [List.getD, List.getElem?_eq_getElem hj', strV, ba]
        have hc1 : w.cell? ⟨b, off + i, none⟩ = some (.string (ba l[i])) := hc0
        have cV := valid_any (ba l[i])
        have cC := Tryz.slices_Contains_string b off i c (l.map ba) (ba l[i]) w (by simp; omega) (by omega) hcell
        rw [contains_ba] at cC
        obtain ⟨x, hx⟩ : ∃ x, l[i] = x := ⟨_, rfl⟩
        rw [hx] at hc1 cV cC hst
        rw [show (ba x).data.toList = x from rfl] at cV
        obtain ⟨X, hX⟩ : ∃ X, ba x = X := ⟨_, rfl⟩
        rw [hX] at hc1 cV cC
        clear hcell hc0 hx hX
        have hizc : (i : Int) ≤ (c : Int) := by omega
        have hi0 : (0 : Int) ≤ (i : Int) := by omega
        cases hv : validC x with
        | false =>
          rw [hv] at cV
          have hn : Hid (R = 10) := hid (by rw [hE.out, hst.out, if_pos hv])
          clear hv cC hst
          go_wp2_with fail
          refine (cV _).mono ?_
          rintro e w' ⟨rfl, rfl⟩
          go_wp2
          go_ret
          rw [hn.out]
          exact ⟨rfl, rfl⟩
        | true =>
          rw [hv] at cV
          by_cases hm : x ∈ l.take i
          · rw [decide_eq_true hm] at cC
            have hn : Hid (R = 11) := hid (by rw [hE.out, hst.out, if_neg (by rw [hv]; simp), if_pos hm])
            clear hv hm hst
            go_wp2_with fail
            refine (cV _).mono ?_
            rintro e w' ⟨rfl, rfl⟩
            go_wp2_with fail
            refine cC.mono ?_
            rintro e w' ⟨rfl, rfl⟩
            go_wp2
            go_ret
            rw [hn.out]
            exact ⟨rfl, rfl⟩
          · rw [decide_eq_false hm] at cC
            have hn : Hid (R = checkGo (l.take (i + 1)) (l.drop (i + 1))) := hid (by rw [hE.out, hst.out, if_neg (by rw [hv]; simp), if_neg hm])
            clear hv hm hst
            go_wp2_with fail
            refine (cV _).mono ?_
            rintro e w' ⟨rfl, rfl⟩
            go_wp2_with fail
            refine cC.mono ?_
            rintro e w' ⟨rfl, rfl⟩
            go_wp2
            go_round
            case rel => exact ⟨i + 1, by go_num, by omega, hn⟩
            case measure => simp [RowKit.intOf]; omega
      · have hltz : ¬ (i : Int) < (l.length : Int) := by omega
        have hn : Hid (R = 0) := hid (by rw [hE.out, List.drop_of_length_le (by omega)]; rfl)
        go_wp2
        go_ret
        rw [hn.out]
        exact ⟨rfl, rfl⟩
end Go.Proofs.YtldnbneblpebiaaGreatDoor
