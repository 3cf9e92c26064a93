/-
  A number with a width: the law's wide. Conditions: the number is not negative and below 2^31; the width is at most 16.
-/
import Derived.Test.YtldnbneblpebiaaGreatDoorExpand
import Derived.RangeFuncBox
set_option linter.unusedVariables false
namespace Go.Proofs.YtldnbneblpebiaaGreatDoor
open Go Go.Proofs Go.RowKit Go.Lib

def sLen (v : Value) : Nat := match v with | .string b => b.size | _ => 0
def one48 (d : Nat) : UInt8 := UInt8.ofNat (48 + d)
theorem byte48 (d : Nat) (h : d < 10) : (48 + d).toUInt8 = one48 d := rfl
/-- Between two rounds of the first loop. -/
def WideAt (n u : Nat) (s : Str) : Prop := (s = [] ∧ u = n) ∨ (s ≠ [] ∧ ((u = 0 ∧ s = decDigits n) ∨ (0 < u ∧ decDigits u ++ s = decDigits n)))
theorem WideAt.step {n u : Nat} {s : Str} (h : WideAt n u s) (hg : 0 < u ∨ s = []) : WideAt n (u / 10) (one48 (u % 10) :: s) := by
  have hd : u % 10 < 10 := Nat.mod_lt _ (by omega)
  refine .inr ⟨by simp, ?_⟩
  by_cases hm : u / 10 = 0
  · have hu : u < 10 := by omega
    have hmod : u % 10 = u := Nat.mod_eq_of_lt hu
    refine .inl ⟨hm, ?_⟩
    rw [hmod]
    rcases h with ⟨rfl, rfl⟩ | ⟨hs, ⟨h0, _⟩ | ⟨h0, h1⟩⟩
    · rw [dec_small hu]; rfl
    · rcases hg with hg | hg
      · omega
      · exact absurd hg hs
    · rw [← h1, dec_small hu]; rfl
  · have hu : u = 10 * (u / 10) + u % 10 := by omega
    have hst : decDigits u = decDigits (u / 10) ++ [one48 (u % 10)] := by
      have := dec_step (u / 10) (u % 10) (by omega) hd
      rw [← hu] at this
      exact this
    refine .inr ⟨by omega, ?_⟩
    rcases h with ⟨rfl, rfl⟩ | ⟨hs, ⟨h0, _⟩ | ⟨h0, h1⟩⟩
    · rw [hst]
    · omega
    · rw [← h1, hst]; simp
theorem WideAt.done {n u : Nat} {s : Str} (h : WideAt n u s) (hg : ¬ (0 < u ∨ s = [])) : s = decDigits n := by
  rcases h with ⟨rfl, rfl⟩ | ⟨hs, ⟨h0, h1⟩ | ⟨h0, _⟩⟩
  · exact absurd (.inr rfl) hg
  · exact h1
  · exact absurd (.inl h0) hg

theorem WideAt.len {n u : Nat} {s : Str} (h : WideAt n u s) (hn : n < 2147483648) : s.length ≤ 10 := by
  have hl := dec_len n 10 (by omega) (by omega)
  rcases h with ⟨rfl, rfl⟩ | ⟨hs, ⟨h0, h1⟩ | ⟨h0, h1⟩⟩
  · simp
  · rw [h1]; exact hl
  · have := congrArg List.length h1
    rw [List.length_append] at this
    omega
theorem conv48 (w : World) (u : Nat) : (convert 57 9 (Value.slice (some ⟨w.heap.size, 0, none⟩) 1 1)).run Tryz.prog (w.alloc (Obj.cells #[Value.int IntKind.u8 (48 + (u : Int) % 10)] 5)) =
    .ok (.string ⟨#[one48 (u % 10)]⟩) (w.alloc (Obj.cells #[Value.int IntKind.u8 (48 + (u : Int) % 10)] 5)) := by
  refine run_convert_bytes_back _ 57 9 5 ⟨w.heap.size, 0, none⟩ 1 [one48 (u % 10)] (by kernel_rfl) (by kernel_rfl) (by kernel_rfl) (fun j hj => ?_)
  obtain rfl : j = 0 := by simpa using hj
  have hd : u % 10 < 10 := Nat.mod_lt _ (by omega)
  have : ((one48 (u % 10)).toNat : Int) = 48 + (u : Int) % 10 := by
    unfold one48
    rw [ofNat_val hd]
    omega
  simp only [List.getElem_cons_zero, this]
  exact (Boxed.new w 5 (Value.int IntKind.u8 (48 + (u : Int) % 10))).cell

set_option maxHeartbeats 4000000 in
set_option maxRecDepth 100000 in
theorem wide_any (n k : Nat) (hn : n < 2147483648) (hk : k ≤ 16) (w : World) : Calls Tryz.prog 25 #[.int .i64 (n : Int), .int .i64 (k : Int)] w (StrOut (wrS n k) w) := by
  have hdl := dec_len n 10 (by omega) (by omega)
  go_enter Tryz.func25, Tryz.ntmps25
  go_wp2
  go_loopw [0, 5] (fun uv sv wr => ∃ (u : Nat) (s : ByteArray), uv = .int .i64 (u : Int) ∧ sv = .string s ∧ u ≤ n ∧ WideAt n u (lst s) ∧ Hid (Below w.heap.size w wr)) (fun uv sv _ => 2 * (RowKit.intOf uv).toNat + (1 - sLen sv))
  case atStart => exact ⟨n, ⟨#[]⟩, rfl, rfl, Nat.le_refl _, .inl ⟨rfl, rfl⟩, hid (Below.refl _ _)⟩
  case round =>
    obtain ⟨u, s, rfl, rfl, hun, hW, hB⟩ := hrel
    have hs10 : s.size ≤ 10 := by rw [Lib.size_eq]; exact hW.len hn
    have hcv := conv48 wr u
    have HW := hid hW
    have hB2 := hid ((hB.out.trans ((Below.refl wr.heap.size wr).alloc (Nat.le_refl _) (Obj.cells #[Value.int IntKind.u8 (48 + (u : Int) % 10)] 5) |>.mono hB.out.size)))
    clear hW
    by_cases hu : 0 < u
    · have hu1 : decide (0 < (u : Int)) = true := decide_eq_true (by omega)
      have hu2 : (0 : Int) < (u : Int) := by omega
      go_wp2
      go_roundw
      case rel =>
        refine ⟨u / 10, _, by simp, rfl, by omega, ?_, hB2⟩
        rw [lst_add]
        exact HW.out.step (.inl hu)
      case measure =>
        have : 1 - sLen (Value.string ({ data := #[one48 (u % 10)] } ++ s)) = 0 := by simp only [sLen, ByteArray.size_append]; rw [show ({ data := #[one48 (u % 10)] } : ByteArray).size = 1 from rfl]; omega
        rw [this]
        simp [RowKit.intOf]
        omega
    · obtain rfl : u = 0 := by omega
      by_cases h0 : 0 < s.size
      · obtain ⟨x1, x2, x3, x4⟩ := str_no h0
        have hdec : Hid (lst s = decDigits n) := hid (HW.out.done (by rintro (h | h); omega; exact lst_ne h0 h))
        have hB4 := hB
        clear hcv hB2 HW hB
        obtain ⟨wo, hwo⟩ : ∃ wo, wo = wr := ⟨_, rfl⟩
        have hd16 : Hid ((decDigits n).length ≤ 10) := hid hdl
        go_wp2
        go_loop [5] (fun sv => ∃ (j : Nat) (S : ByteArray), sv = .string S ∧ lst S = zerosS j ++ decDigits n ∧ (j = 0 ∨ j + (decDigits n).length ≤ k)) (fun sv => k - sLen sv)
        case atStart => exact ⟨0, s, rfl, by rw [hdec.out]; rfl, .inl rfl⟩
        case round =>
          obtain ⟨j, S, rfl, hS, hj⟩ := hrel
          have hSz : S.size = j + (decDigits n).length := by
            rw [show S.size = (lst S).length from Lib.size_eq S, hS]
            simp [zerosS]
          by_cases hlt : S.size < k
          · have hltz : (S.size : Int) < (k : Int) := by omega
            go_wp2
            go_round
            case rel =>
              refine ⟨j + 1, _, rfl, ?_, .inr (by omega)⟩
              rw [lst_add, hS]
              simp [zerosS, List.replicate_succ, lst]
            case measure =>
              simp only [sLen, ByteArray.size_append]
              rw [show ({ data := #[48] } : ByteArray).size = 1 from rfl]
              omega
          · have hltz : ¬ (S.size : Int) < (k : Int) := by omega
            go_wp2
            go_ret
            refine ⟨⟨_, rfl, ?_⟩, hB4.out⟩
            rw [hS]
            unfold wrS
            rw [show j = k - (decDigits n).length by omega]
      · obtain ⟨x1, x2, x3, x4⟩ := str_yes h0
        have hcv0 : (convert 57 9 (Value.slice (some ⟨wr.heap.size, 0, none⟩) 1 1)).run Tryz.prog (wr.alloc (Obj.cells #[Value.int IntKind.u8 48] 5)) = .ok (.string ⟨#[one48 0]⟩) (wr.alloc (Obj.cells #[Value.int IntKind.u8 48] 5)) := by
          have := conv48 wr 0
          simpa using this
        have hB3 : Hid (Below w.heap.size w (wr.alloc (Obj.cells #[Value.int IntKind.u8 48] 5))) := hid ((hB.out.trans ((Below.refl wr.heap.size wr).alloc (Nat.le_refl _) (Obj.cells #[Value.int IntKind.u8 48] 5) |>.mono hB.out.size)))
        clear hcv hB2
        go_wp2
        go_roundw
        case rel =>
          refine ⟨0, _, by simp, rfl, by omega, ?_, hB3⟩
          rw [lst_add]
          exact HW.out.step (.inr (lst_nil h0))
        case measure =>
          have : 1 - sLen (Value.string ({ data := #[one48 0] } ++ s)) = 0 := by simp only [sLen, ByteArray.size_append]; rw [show ({ data := #[one48 0] } : ByteArray).size = 1 from rfl]; omega
          rw [this]
          have : sLen (Value.string s) = 0 := by simp only [sLen]; omega
          rw [this]
          simp [RowKit.intOf]
end Go.Proofs.YtldnbneblpebiaaGreatDoor
