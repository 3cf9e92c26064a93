/-
  Decimals of numbers below 100: strconv.Itoa, Decimal of the specification. Conditions: none.
-/
import Derived.Test.YtocmbifljkcmeaaDoorR8A
import Derived.Lib.ItoaNum
import Derived.Lib.BufferWrite
import Derived.Laws.IdiomStrings
set_option linter.unusedVariables false
namespace Go.Proofs.YtocmbifljkcmeaaDoor
open Go Go.Proofs Go.RowKit Go.Lib

def digs36 : ByteArray := ⟨#[48, 49, 50, 51, 52, 53, 54, 55, 56, 57, 97, 98, 99, 100, 101, 102, 103, 104, 105, 106, 107, 108, 109, 110, 111, 112, 113, 114, 115, 116, 117, 118, 119, 120, 121, 122]⟩
theorem digs_fin : ∀ i : Fin 10, ((lst digs36).take (i.val + 1)).drop i.val = [UInt8.ofNat (48 + i.val)] := by decide +kernel
theorem smalls_fin : ∀ i : Fin 100, ((lst Lib.smalls).take (i.val * 2 + 2)).drop (i.val * 2) = [UInt8.ofNat (48 + i.val / 10), UInt8.ofNat (48 + i.val % 10)] := by decide +kernel
theorem digs_ext {u : Nat} (h : u < 10) : digs36.extract u (u + 1) = ba (decDigits u) := by
  rw [← ba_lst (digs36.extract u (u + 1)), lst_extract, decDigits_one h, digs_fin ⟨u, h⟩]
theorem smalls_ext {u : Nat} (h1 : ¬ u < 10) (h2 : u < 100) : Lib.smalls.extract (u * 2) (u * 2 + 2) = ba (decDigits u) := by
  rw [← ba_lst (Lib.smalls.extract (u * 2) (u * 2 + 2)), lst_extract, decDigits_two h1 h2, smalls_fin ⟨u, h2⟩]
theorem digs_size : digs36.size = 36 := by decide +kernel
theorem smalls_size : Lib.smalls.size = 200 := by decide +kernel
set_option maxHeartbeats 4000000 in
set_option maxRecDepth 100000 in
theorem small_any (u : Nat) (h : u < 100) (w : World) : Calls Tryd.prog 70 #[.int .i64 (u : Int)] w fun e w' => e = .returned (.string (ba (decDigits u))) ∧ w = w' := by
  by_cases hu : u < 10
  · have hz : (u : Int) < 10 := by omega
    have e1 : IntKind.i64.wrap ((u : Int) + 1) = (u : Int) + 1 := IntWalk.i64_in _ (by omega)
    have e2 : (u : Int) + 1 ≤ 36 := by omega
    have e3 : (u : Int) ≤ 36 := by omega
    have hx := digs_ext hu
    unfold digs36 at hx
    rw [← hx]
    clear hx hu
    go_enter Tryd.func70, Tryd.ntmps70
    go_wp2
    go_ret
    exact ⟨rfl, rfl⟩
  · have hz : ¬ (u : Int) < 10 := by omega
    have e1 : IntKind.i64.wrap ((u : Int) * 2) = (u : Int) * 2 := IntWalk.i64_in _ (by omega)
    have e2 : IntKind.i64.wrap ((u : Int) * 2 + 2) = (u : Int) * 2 + 2 := IntWalk.i64_in _ (by omega)
    have e3 : (u : Int) * 2 + 2 ≤ 200 := by omega
    have e4 : (u : Int) * 2 ≤ 200 := by omega
    have hx := smalls_ext hu h
    unfold Lib.smalls at hx
    rw [← hx]
    clear hx hu
    go_enter Tryd.func70, Tryd.ntmps70
    go_wp2
    go_ret
    exact ⟨rfl, rfl⟩
set_option maxHeartbeats 2000000 in
set_option maxRecDepth 100000 in
theorem itoa8_any (u : Nat) (h : u < 100) (w : World) : Calls Tryd.prog 42 #[.int .i64 (u : Int)] w fun e w' => e = .returned (.string (ba (decDigits u))) ∧ w = w' := by
  have cS := fun w => small_any u h w
  have hz : (u : Int) < 100 := by omega
  have hz0 : (0 : Int) ≤ (u : Int) := by omega
  have cF : ∀ w, Calls Tryd.prog 67 #[.int .i64 (u : Int), .int .i64 10] w fun e w' => e = .returned (.string (ba (decDigits u))) ∧ w = w' := fun w => by
    go_enter Tryd.func67, Tryd.ntmps67
    go_wp2_with fail
    refine (cS _).mono ?_
    rintro e w' ⟨rfl, rfl⟩
    go_wp2
    go_ret
    exact ⟨rfl, rfl⟩
  have cI : ∀ w, Calls Tryd.prog 61 #[.int .i64 (u : Int)] w fun e w' => e = .returned (.string (ba (decDigits u))) ∧ w = w' := fun w => by
    go_enter Tryd.func61, Tryd.ntmps61
    go_wp2_with fail
    refine (cF _).mono ?_
    rintro e w' ⟨rfl, rfl⟩
    go_wp2
    go_ret
    exact ⟨rfl, rfl⟩
  go_enter Tryd.func42, Tryd.ntmps42
  go_wp2_with fail
  refine (cI _).mono ?_
  rintro e w' ⟨rfl, rfl⟩
  go_wp2
  go_ret
  exact ⟨rfl, rfl⟩
set_option maxHeartbeats 2000000 in
set_option maxRecDepth 100000 in
theorem rdec1_any (u : Nat) (h : u < 10) (w : World) : Calls Tryd.prog 21 #[.int .i64 (u : Int)] w (Says (.string (ba (decDigits u))) w) := by
  rw [decDigits_one h]
  unfold Says
  obtain ⟨x, hx⟩ : ∃ x : UInt8, UInt8.ofNat (48 + u) = x := ⟨_, rfl⟩
  have hxn : (x.toNat : Int) = 48 + (u : Int) := by rw [← hx]; simp; omega
  rw [hx]
  have hz : (u : Int) < 10 := by omega
  have q1 : IntKind.i64.wrap (48 + (u : Int)) = (x.toNat : Int) := by rw [hxn]; exact IntWalk.i64_in _ (by omega)
  have q1' : 48 + (u : Int) = (x.toNat : Int) := hxn.symm
  have q2 : IntKind.u8.wrap (x.toNat : Int) = (x.toNat : Int) := by simp [IntKind.wrap, IntKind.bits, IntKind.signed]; omega
  have hcv : (Go.convert 82 9 (.slice (some ⟨w.heap.size, 0, none⟩) 1 1)).run Tryd.prog (w.alloc (.cells #[.int .u8 (x.toNat : Int)] 5)) = .ok (.string (ba [x])) (w.alloc (.cells #[.int .u8 (x.toNat : Int)] 5)) :=
    run_convert_bytes_back (w.alloc (.cells #[.int .u8 (x.toNat : Int)] 5)) 82 9 5 ⟨w.heap.size, 0, none⟩ 1 [x] Tryd.underlying82 Tryd.underlying5 Tryd.underlying9 (fun j hj => by
      obtain rfl : j = 0 := by simpa using hj
      simp [Addr.add])
  have HB : Hid (Below w.heap.size w (w.alloc (.cells #[.int .u8 (x.toNat : Int)] 5))) := hid ((Below.refl _ w).alloc (Nat.le_refl _) _)
  clear hx hxn
  go_enter Tryd.func21, Tryd.ntmps21
  go_wp2
  go_ret
  exact ⟨rfl, HB.out⟩
theorem add_ba (x y : Str) (h : x.length + y.length ≤ 9223372036854775807) : ∀ w, (Op.stringOp .add (ba x) (ba y)).run Tryd.prog w = .ok (.string (ba (x ++ y))) w := fun w => by
  have e1 : (ba x).size = x.length := by rw [Lib.size_eq]; rfl
  have e2 : (ba y).size = y.length := by rw [Lib.size_eq]; rfl
  rw [run_string_add_sum (w := w) _ _ (by rw [e1, e2]; exact h)]
  rw [show ba x ++ ba y = ba (x ++ y) by apply ByteArray.ext; simp [ba]]
set_option maxHeartbeats 2000000 in
set_option maxRecDepth 100000 in
theorem rdec8_any (u : Nat) (h : u < 100) (w : World) : Calls Tryd.prog 21 #[.int .i64 (u : Int)] w (Says (.string (ba (decDigits u))) w) := by
  by_cases hu : u < 10
  · exact rdec1_any u hu w
  · have hd : decDigits u = decDigits (u / 10) ++ decDigits (u % 10) := by
      rw [decDigits_two hu h, decDigits_one (show u / 10 < 10 by omega), decDigits_one (show u % 10 < 10 by omega)]
      rfl
    rw [hd]
    have cA := fun w => rdec1_any (u / 10) (by omega) w
    have cB := fun w => rdec1_any (u % 10) (by omega) w
    have l1 : (decDigits (u / 10)).length = 1 := by rw [decDigits_one (show u / 10 < 10 by omega)]; rfl
    have l2 : (decDigits (u % 10)).length = 1 := by rw [decDigits_one (show u % 10 < 10 by omega)]; rfl
    have s1 := add_ba (decDigits (u / 10)) (decDigits (u % 10)) (by omega)
    unfold Says at cA cB ⊢
    have hz : ¬ (u : Int) < 10 := by omega
    have i1 : (u : Int) / 10 = ((u / 10 : Nat) : Int) := by omega
    have i2 : (u : Int) % 10 = ((u % 10 : Nat) : Int) := by omega
    obtain ⟨p, hp⟩ : ∃ p, u / 10 = p := ⟨_, rfl⟩
    obtain ⟨q, hq⟩ : ∃ q, u % 10 = q := ⟨_, rfl⟩
    rw [hp] at cA i1 s1 l1 ⊢
    rw [hq] at cB i2 s1 l2 ⊢
    have CA := hid cA
    have CB := hid cB
    have hp1 : p < 100 := by omega
    have hq1 : q < 100 := by omega
    clear hp hq h cA cB hd l1 l2
    go_enter Tryd.func21, Tryd.ntmps21
    go_wp2_with fail
    refine (CA.out _).mono ?_
    rintro e w1 ⟨rfl, hb1⟩
    have HB1 := hid hb1
    clear hb1
    go_wp2_with fail
    refine (CB.out _).mono ?_
    rintro e w2 ⟨rfl, hb2⟩
    have HB2 := hid (HB1.out.trans (hb2.mono HB1.out.size))
    clear hb2
    go_wp2
    go_ret
    exact ⟨rfl, HB2.out⟩
end Go.Proofs.YtocmbifljkcmeaaDoor
