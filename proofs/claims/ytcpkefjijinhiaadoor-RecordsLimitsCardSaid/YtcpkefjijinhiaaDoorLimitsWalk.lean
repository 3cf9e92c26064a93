/-
  The walk of the statement RecordsLimits: it returns true. Conditions: the first variable of the package holds a number.
-/
import Derived.Test.YtcpkefjijinhiaaDoorAgree
import Derived.Test.YtcpkefjijinhiaaDoorAwake
import Derived.Test.YtcpkefjijinhiaaDoorFText
set_option linter.unusedVariables false
namespace Go.Proofs.YtcpkefjijinhiaaDoor
open Go Go.Proofs Go.RowKit Go.Lib

set_option maxHeartbeats 1000000 in
theorem limits_any (cF : FieldAll) (v : Int) (n m : Int) (w : World) (hm : w.cell? ⟨0, 0, none⟩ = some (.int .i64 v)) (hw0 : 0 < w.heap.size) :
    Calls Tryd.prog 8 #[.int .i64 n, .int .i64 m] w fun e w' => e = .returned (.bool true) ∧ Below w.heap.size w w' := by
  have hA := fun (w' : World) (hb : Below w.heap.size w w') => awake_any v w' ((hb.cell (p := ⟨0, 0, none⟩) hw0).trans hm) (Nat.lt_of_lt_of_le hw0 hb.size)
  have HA := hid hA
  have HG := hid (fun (S : ByteArray) (w' : World) => agree_any cF S 44 34 w')
  clear cF hA
  go_enter Tryd.func8, Tryd.ntmps8
  go_wp2_with fail
  refine (mod_any n 5 (by decide) _).mono ?_
  rintro e w' ⟨rfl, rfl⟩
  obtain ⟨r1, r2⟩ := modI_range n 5 (by decide)
  generalize modI n 5 = r at r1 r2 ⊢
  have e1 : IntKind.i64.wrap (398 + r) = 398 + r := IntWalk.i64_in _ (by omega)
  go_wp2_with fail
  refine (mod_any m 5 (by decide) _).mono ?_
  rintro e w' ⟨rfl, rfl⟩
  obtain ⟨t1, t2⟩ := modI_range m 5 (by decide)
  generalize modI m 5 = t at t1 t2 ⊢
  have e2 : IntKind.i64.wrap (10 + t) = 10 + t := IntWalk.i64_in _ (by omega)
  go_wp2
  go_loopw [5, 6] (fun s i wr => ∃ (S : ByteArray) (k : Nat), s = .string S ∧ i = .int .i64 (k : Int) ∧ k ≤ 402 ∧ S.size = 2 * k ∧ Hid (wr = w)) (fun _ i _ => 402 - (RowKit.intOf i).toNat)
  case atStart => exact ⟨⟨#[]⟩, 0, rfl, rfl, by decide, rfl, by trivial⟩
  case round =>
    obtain ⟨S, k, rfl, rfl, hk, hS, hwr⟩ := hrel
    obtain rfl : w = wr := hwr.out.symm
    clear hwr
    by_cases hlt : (k : Int) < 398 + r
    · have hk2 : k < 402 := by omega
      have add1 : ∀ w, (Op.stringOp .add S ⟨#[97, 10]⟩).run Tryd.prog w = .ok (.string (S ++ ⟨#[97, 10]⟩)) w := fun w => run_string_add_sum (w := w) _ _ (by rw [show (⟨#[97, 10]⟩ : ByteArray).size = 2 from rfl]; omega)
      have e3 : IntKind.i64.wrap ((k : Int) + 1) = (k : Int) + 1 := IntWalk.i64_in _ (by omega)
      go_wp2
      go_roundw
      case rel => exact ⟨_, k + 1, rfl, by go_num, by omega, by rw [ByteArray.size_append, hS]; rfl, by trivial⟩
      case measure => simp [RowKit.intOf]; omega
    · go_wp2
      go_loopw [5, 7] (fun s i wr => ∃ (S : ByteArray) (k : Nat), s = .string S ∧ i = .int .i64 (k : Int) ∧ k ≤ 14 ∧ S.size ≤ 804 + 2 * k ∧ Hid (wr = w)) (fun _ i _ => 14 - (RowKit.intOf i).toNat)
      case atStart => exact ⟨S, 1, rfl, rfl, by decide, by omega, by trivial⟩
      case round =>
        obtain ⟨S, k, rfl, rfl, hk, hS, hwr⟩ := hrel
        obtain rfl : w = wr := hwr.out.symm
        clear hwr
        by_cases hlt : (k : Int) < 10 + t
        · have hk2 : k < 14 := by omega
          have add1 : ∀ w, (Op.stringOp .add S ⟨#[98, 44]⟩).run Tryd.prog w = .ok (.string (S ++ ⟨#[98, 44]⟩)) w := fun w => run_string_add_sum (w := w) _ _ (by rw [show (⟨#[98, 44]⟩ : ByteArray).size = 2 from rfl]; omega)
          have e3 : IntKind.i64.wrap ((k : Int) + 1) = (k : Int) + 1 := IntWalk.i64_in _ (by omega)
          go_wp2
          go_roundw
          case rel => exact ⟨_, k + 1, rfl, by go_num, by omega, by rw [ByteArray.size_append]; show S.size + 2 ≤ _; omega, by trivial⟩
          case measure => simp [RowKit.intOf]; omega
        · have add2 : ∀ w, (Op.stringOp .add S ⟨#[98, 10]⟩).run Tryd.prog w = .ok (.string (S ++ ⟨#[98, 10]⟩)) w := fun w => run_string_add_sum (w := w) _ _ (by rw [show (⟨#[98, 10]⟩ : ByteArray).size = 2 from rfl]; omega)
          go_wp2_with fail
          refine (HA.out _ (Below.refl _ _)).mono ?_
          rintro e w1 ⟨rfl, hb1⟩
          go_wp2_with fail
          refine (comma_any _).mono ?_
          rintro e w2 ⟨rfl, hb2⟩
          have hb12 := hb1.trans (hb2.mono hb1.size)
          clear hb1 hb2
          go_wp2_with fail
          refine (HG.out _ _).mono ?_
          rintro e w3 ⟨rfl, hb3⟩
          have hb13 := hb12.trans (hb3.mono hb12.size)
          clear hb12 hb3
          go_wp2_with fail
          refine (comma_any _).mono ?_
          rintro e w4 ⟨rfl, hb4⟩
          have hb14 := hb13.trans (hb4.mono hb13.size)
          clear hb13 hb4
          go_wp2_with fail
          refine (HG.out _ _).mono ?_
          rintro e w5 ⟨rfl, hb5⟩
          have hb15 := hb14.trans (hb5.mono hb14.size)
          clear hb14 hb5
          go_wp2
          go_ret
          exact ⟨rfl, hb15⟩
end Go.Proofs.YtcpkefjijinhiaaDoor
