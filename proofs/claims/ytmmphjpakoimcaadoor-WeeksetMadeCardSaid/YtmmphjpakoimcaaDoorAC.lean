/-
  Runs of weeks and their texts: the program's runAhead and writeItem, the specification's Decimal. Conditions: the weeks lie in memory as a slice of ints; the numbers are below 100.
-/
import Derived.Test.YtmmphjpakoimcaaDoorFM
import Derived.Lib.BufferWrite
import Derived.Laws.IdiomStrings
set_option linter.unusedVariables false
namespace Go.Proofs.YtmmphjpakoimcaaDoor
open Go Go.Proofs Go.RowKit Go.Lib

theorem castL_get (l : List Nat) (j : Nat) (v : Nat) (h : l[j]? = some v) : (castL l)[j]? = some (v : Int) := by
  unfold castL
  rw [List.getElem?_map, h]
  rfl
theorem IntsIn.cell {w : World} {B : Nat} {A : Option Addr} {l : List Nat} (h : IntsIn w B A (castL l)) (hne : l ≠ []) : ∃ b off, A = some ⟨b, off, none⟩ ∧ ∀ j v, l[j]? = some v → w.cell? ⟨b, off + j, none⟩ = some (.int .i64 ((v : Nat) : Int)) := by
  rcases h with h | ⟨b, off, hA, hB, hc⟩
  · exact absurd (by unfold castL at h; simpa using h) hne
  · exact ⟨b, off, hA, fun j v hv => hc j _ (castL_get l j v hv)⟩

set_option maxHeartbeats 4000000 in
set_option maxRecDepth 100000 in
theorem runAhead_any (a : Nat) (r : List Nat) (A : Option Addr) (c B : Nat) (hl : r.length ≤ 20) (ha : a ≤ 100) (w : World) (h : IntsIn w B A (castL (a :: r))) :
    Calls Tryd.prog 30 #[.slice A (r.length + 1) c] w fun e w' => e = .returned (.int .i64 ((cnt a r + 1 : Nat) : Int)) ∧ ∃ q, w' = w.drewN q := by
  obtain ⟨b, off, rfl, hc⟩ := h.cell (by simp)
  have c0 := hc 0 a rfl
  rw [Nat.add_zero] at c0
  have hle := cnt_le r a
  obtain ⟨C, hC⟩ : ∃ C, cnt a r = C := ⟨_, rfl⟩
  have hget := cnt_get r a
  have hend := cnt_end r a
  rw [hC] at hget hend hle ⊢
  have HC := hid hc
  have HG := hid hget
  have HE := hid hend
  clear hc hget hend hC h
  go_enter Tryd.func30, Tryd.ntmps30
  go_wp2
  go_loopw [3] (fun iv wr => ∃ m : Nat, iv = .int .i64 ((m : Int) + 1) ∧ m ≤ C ∧ ∃ q, wr = w.drewN q) (fun iv _ => C + 1 - (RowKit.intOf iv).toNat)
  case atStart => exact ⟨0, rfl, by omega, 0, rfl⟩
  case round =>
    obtain ⟨m, rfl, hm, q, rfl⟩ := hrel
    by_cases hlt : m < r.length
    · have hltz : (m : Int) + 1 < (r.length : Int) + 1 := by omega
      have hltz2 : (m : Int) < (r.length : Int) := by omega
      obtain ⟨x, hx⟩ : ∃ x, r[m]? = some x := ⟨r[m], List.getElem?_eq_getElem hlt⟩
      have cm := HC.out (m + 1) x (by rw [List.getElem?_cons_succ]; exact hx)
      have hsum : IntKind.i64.wrap ((a : Int) + ((m : Int) + 1)) = (a : Int) + ((m : Int) + 1) := IntWalk.i64_in _ (by omega)
      by_cases hmc : m < C
      · have hxe := HG.out m hmc
        rw [hx] at hxe
        injection hxe with hxe
        have hb : ((x : Int) == (a : Int) + ((m : Int) + 1)) = true := by simp; omega
        clear hx hxe
        go_wp2
        go_quiet (fail)
        go_wp2
        go_roundw
        case rel => exact ⟨m + 1, by simp, by omega, _, rfl⟩
        case measure => simp [RowKit.intOf]; omega
      · obtain rfl : m = C := by omega
        have hb : ((x : Int) == (a : Int) + ((m : Int) + 1)) = false := by
          rw [beq_eq_false_iff_ne]
          intro e
          apply HE.out
          rw [hx]
          congr 1
          omega
        clear hx
        go_wp2
        go_quiet (fail)
        go_wp2
        go_ret
        exact ⟨by simp, _, World.drewN_drewN _ _ _⟩
    · have hltz : ¬ (m : Int) + 1 < (r.length : Int) + 1 := by omega
      have hltz2 : ¬ (m : Int) < (r.length : Int) := by omega
      obtain rfl : m = C := by omega
      go_wp2
      go_quiet (fail)
      go_wp2
      go_ret
      exact ⟨by simp, _, World.drewN_drewN _ _ _⟩

theorem app_ba (a b : Str) : ba a ++ ba b = ba (a ++ b) := by
  apply ByteArray.ext
  simp [ba]
theorem add_ba (x y : Str) (h : x.length + y.length ≤ 9223372036854775807) : ∀ w, (Op.stringOp .add (ba x) (ba y)).run Tryd.prog w = .ok (.string (ba (x ++ y))) w := fun w => by
  rw [run_string_add_sum (w := w) _ _ (by rw [ba_size, ba_size]; exact h), app_ba]
set_option maxHeartbeats 2000000 in
theorem writeItem_any (a b : Nat) (ha : a < 100) (hb : b < 100) (w : World) : Calls Tryd.prog 31 #[.int .i64 (a : Int), .int .i64 (b : Int)] w fun e w' => e = .returned (.string (ba (itemT a b))) ∧ w' = w := by
  have cA := fun w => Tryd.strconv_Itoa_small a ha w
  have cB := fun w => Tryd.strconv_Itoa_small b hb w
  rw [dec_dec2 a ha] at cA
  rw [dec_dec2 b hb] at cB
  rw [show (⟨(dec2 a).toArray⟩ : ByteArray) = ba (dec2 a) from rfl] at cA
  rw [show (⟨(dec2 b).toArray⟩ : ByteArray) = ba (dec2 b) from rfl] at cB
  by_cases he : a = b
  · subst he
    have e : itemT a a = dec2 a := if_pos rfl
    rw [e]
    have hz : ((a : Int) == (a : Int)) = true := by simp
    go_enter Tryd.func31, Tryd.ntmps31
    go_wp2_with fail
    refine (cA _).mono ?_
    rintro e w' ⟨rfl, rfl⟩
    go_wp2
    go_ret
    exact ⟨rfl, rfl⟩
  · have e : itemT a b = dec2 a ++ 45 :: dec2 b := if_neg he
    rw [e]
    have hz : ((a : Int) == (b : Int)) = false := by simp; omega
    have l1 := dec2_len a
    have l2 := dec2_len b
    have s1 := add_ba (dec2 a) [45] (by rw [List.length_singleton]; omega)
    have s2 := add_ba (dec2 a ++ [45]) (dec2 b) (by rw [List.length_append, List.length_singleton]; omega)
    rw [List.append_assoc, List.singleton_append] at s2
    rw [show ba [45] = (⟨#[45]⟩ : ByteArray) from rfl] at s1
    clear e he
    go_enter Tryd.func31, Tryd.ntmps31
    go_wp2_with fail
    refine (cA _).mono ?_
    rintro e w1 ⟨rfl, rfl⟩
    go_wp2_with fail
    refine (cB _).mono ?_
    rintro e w1 ⟨rfl, rfl⟩
    go_wp2
    go_ret
    exact ⟨rfl, rfl⟩

theorem dec_one (u : Nat) (h : u < 10) : dec2 u = [UInt8.ofNat (48 + u)] := if_pos h
theorem dec_two (u : Nat) (h0 : 10 ≤ u) (h : u < 100) : dec2 u = dec2 (u / 10) ++ dec2 (u % 10) := by
  rw [dec_one (u / 10) (by omega), dec_one (u % 10) (by omega)]
  exact if_neg (by omega)
set_option maxHeartbeats 2000000 in
theorem rdec1_any (u : Nat) (h : u < 10) (w : World) : Calls Tryd.prog 34 #[.int .i64 (u : Int)] w fun e w' => e = .returned (.string (ba (dec2 u))) ∧ Below w.heap.size w w' := by
  rw [dec_one u h]
  obtain ⟨x, hx⟩ : ∃ x : UInt8, UInt8.ofNat (48 + u) = x := ⟨_, rfl⟩
  have hxn : (x.toNat : Int) = 48 + (u : Int) := by rw [← hx]; simp; omega
  rw [hx]
  have hz : (u : Int) < 10 := by omega
  have q1 : IntKind.i64.wrap (48 + (u : Int)) = (x.toNat : Int) := by rw [hxn]; exact IntWalk.i64_in _ (by omega)
  have q1' : 48 + (u : Int) = (x.toNat : Int) := hxn.symm
  have q2 : IntKind.u8.wrap (x.toNat : Int) = (x.toNat : Int) := by simp [IntKind.wrap, IntKind.bits, IntKind.signed]; omega
  have hcv : (Go.convert 57 9 (.slice (some ⟨w.heap.size, 0, none⟩) 1 1)).run Tryd.prog (w.alloc (.cells #[.int .u8 (x.toNat : Int)] 5)) = .ok (.string (ba [x])) (w.alloc (.cells #[.int .u8 (x.toNat : Int)] 5)) :=
    run_convert_bytes_back (w.alloc (.cells #[.int .u8 (x.toNat : Int)] 5)) 57 9 5 ⟨w.heap.size, 0, none⟩ 1 [x] Tryd.underlying57 Tryd.underlying5 Tryd.underlying9 (fun j hj => by
      obtain rfl : j = 0 := by simpa using hj
      simp [Addr.add])
  have HB : Hid (Below w.heap.size w (w.alloc (.cells #[.int .u8 (x.toNat : Int)] 5))) := hid ((Below.refl _ w).alloc (Nat.le_refl _) _)
  clear hx hxn
  go_enter Tryd.func34, Tryd.ntmps34
  go_wp2
  go_ret
  exact ⟨rfl, HB.out⟩
set_option maxHeartbeats 2000000 in
theorem rdec_any (u : Nat) (h : u < 100) (w : World) : Calls Tryd.prog 34 #[.int .i64 (u : Int)] w fun e w' => e = .returned (.string (ba (dec2 u))) ∧ Below w.heap.size w w' := by
  by_cases hu : u < 10
  · exact rdec1_any u hu w
  · rw [dec_two u (by omega) h]
    have cA := hid (fun w => rdec1_any (u / 10) (by omega) w)
    have cB := hid (fun w => rdec1_any (u % 10) (by omega) w)
    have l1 := dec2_len (u / 10)
    have l2 := dec2_len (u % 10)
    have s1 := add_ba (dec2 (u / 10)) (dec2 (u % 10)) (by omega)
    have hz : ¬ (u : Int) < 10 := by omega
    have i1 : (u : Int) / 10 = ((u / 10 : Nat) : Int) := by omega
    have i2 : (u : Int) % 10 = ((u % 10 : Nat) : Int) := by omega
    obtain ⟨p, hp⟩ : ∃ p, u / 10 = p := ⟨_, rfl⟩
    obtain ⟨q, hq⟩ : ∃ q, u % 10 = q := ⟨_, rfl⟩
    rw [hp] at cA i1 s1 l1 ⊢
    rw [hq] at cB i2 s1 l2 ⊢
    clear hp hq
    go_enter Tryd.func34, Tryd.ntmps34
    go_wp2_with fail
    refine (cA.out _).mono ?_
    rintro e w1 ⟨rfl, hb1⟩
    have HB1 := hid hb1
    clear hb1
    go_wp2_with fail
    refine (cB.out _).mono ?_
    rintro e w2 ⟨rfl, hb2⟩
    have HB2 := hid (HB1.out.trans (hb2.mono HB1.out.size))
    clear hb2
    go_wp2
    go_ret
    exact ⟨rfl, HB2.out⟩
end Go.Proofs.YtmmphjpakoimcaaDoor
