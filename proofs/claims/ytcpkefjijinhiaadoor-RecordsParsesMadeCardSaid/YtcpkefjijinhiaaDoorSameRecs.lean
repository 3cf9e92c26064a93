/-
  The reference's Same finds equal lists of records equal. Conditions: both lists are the call's own rows.
-/
import Derived.Test.YtcpkefjijinhiaaDoorRecs
set_option linter.unusedVariables false
namespace Go.Proofs.YtcpkefjijinhiaaDoor
open Go Go.Proofs Go.RowKit Go.Lib

set_option maxHeartbeats 4000000 in
set_option maxRecDepth 100000 in
theorem same_any (v v' : Value) (rs : List Rec) (B B' : Nat) (w : World) (hl : rs.length ≤ 1000000) (hf : ∀ r ∈ rs, r.fields.length ≤ 1000000) (h : RecRow w B v rs) (h' : RecRow w B' v' rs) :
    Calls Tryd.prog 29 #[v, v'] w fun e w' => e = .returned (.bool true) ∧ ∃ q, w' = w.drewN q := by
  obtain ⟨A1, c1, rfl⟩ := h.slice
  obtain ⟨A2, c2, rfl⟩ := h'.slice
  have H := hid h
  have H' := hid h'
  have HF := hid hf
  clear h h' hf
  go_enter Tryd.func29, Tryd.ntmps29
  go_wp2
  go_loopw [5] (fun i wr => ∃ k : Nat, i = .int .i64 (k : Int) ∧ k ≤ rs.length ∧ ∃ q, wr = w.drewN q) (fun i _ => rs.length - (RowKit.intOf i).toNat)
  case atStart => exact ⟨0, rfl, Nat.zero_le _, 0, rfl⟩
  case round =>
    obtain ⟨k, rfl, hk, q, rfl⟩ := hrel
    by_cases hlt : k < rs.length
    · have hltz : (k : Int) < (rs.length : Int) := by omega
      obtain ⟨r, hr⟩ : ∃ r, rs[k]? = some r := ⟨_, List.getElem?_eq_getElem hlt⟩
      have hrf : r.fields.length ≤ 1000000 := HF.out r (List.mem_of_getElem? hr)
      obtain ⟨g, cap', Af, cf, hv, a1, a2, hfr⟩ := H.out.cell hr
      injection hv with hA _ hcp
      subst hA hcp
      obtain ⟨g', cap', Af', cf', hv, b1, b2, hfr'⟩ := H'.out.cell hr
      injection hv with hA _ hcp
      subst hA hcp
      obtain ⟨rl, fs⟩ := r
      dsimp only at a1 a2 b1 b2 hfr hfr' hrf
      clear hr
      go_wp2
      go_quiet (fail)
      go_wp2
      go_loopw [6] (fun i wr => ∃ j : Nat, i = .int .i64 (j : Int) ∧ j ≤ fs.length ∧ ∃ q, wr = w.drewN q) (fun i _ => fs.length - (RowKit.intOf i).toNat)
      case atStart => exact ⟨0, rfl, Nat.zero_le _, q + nq, by rw [World.drewN_drewN]⟩
      case round =>
        obtain ⟨j, rfl, hj, q2, rfl⟩ := hrel
        by_cases hjl : j < fs.length
        · have hjlz : (j : Int) < (fs.length : Int) := by omega
          obtain ⟨f, hfj⟩ : ∃ f, fs[j]? = some f := ⟨_, List.getElem?_eq_getElem hjl⟩
          obtain ⟨gf, cap', hv, d0, d1, d2⟩ := hfr.cell hfj
          injection hv with hA _ hcp
          subst hA hcp
          obtain ⟨gf', cap', hv, e0, e1, e2⟩ := hfr'.cell hfj
          injection hv with hA _ hcp
          subst hA hcp
          obtain ⟨ft, fc, fq⟩ := f
          dsimp only at d0 d1 d2 e0 e1 e2
          unfold strV at d0 e0
          clear hfj hfr hfr'
          go_wp2
          go_quiet (fail)
          go_wp2
          go_roundw
          case rel => exact ⟨j + 1, by go_num, by omega, q2 + nq, rfl⟩
          case measure => simp [RowKit.intOf]; omega
        · have hjlz : ¬ (j : Int) < (fs.length : Int) := by omega
          clear hfr hfr'
          go_wp2
          go_roundw
          case rel => exact ⟨k + 1, by go_num, by omega, q2, rfl⟩
          case measure => simp [RowKit.intOf]; omega
    · have hltz : ¬ (k : Int) < (rs.length : Int) := by omega
      go_wp2
      go_ret
      exact ⟨rfl, q, rfl⟩
end Go.Proofs.YtcpkefjijinhiaaDoor
