/-
  Ascending codes: areFeatures of the program; Rises and Codes of the specification. Conditions: the strings lie in memory.
  Ascending codes by the specification: Rises, Codes. Conditions: the strings lie in memory.
  DERIVED: THE SHELF's CONTRACTS AT THIS DUMP, IN PLAIN WORDS (tools/lay-plain.mjs out of 'TryzShelfS.lean', which tools/lay-shelf.mjs wrote): THE SAME DECLARATIONS UNDER THE SAME NAMES: 'import', 'namespace', 'open', 'def', 'theorem' AND NOTHING ELSE: no command of the shelf's: FOR A HAND-IN. Each laying: the table of numbers ('.._ren') and one theorem, a field a fact of the dump's own or the kernel's comparison; each contract: ONE APPLICATION.
  Reading one field of a room: a code, a number of seats, a list of features. Conditions: the variables hold what their text lays; the text is below 2^32 bytes.
-/
import Derived.Test.YteckefolakjafaaGreatDoorBR20
import Derived.Test.YteckefolakjafaaGreatDoorBR15
import Derived.Test.YteckefolakjafaaGreatDoorBR14
import Derived.Test.YteckefolakjafaaGreatDoorProg
import Derived.Test.YteckefolakjafaaGreatDoorBR23
import Derived.Test.YteckefolakjafaaGreatDoorBR18
import Derived.Sort.Walk0
import Derived.BigQuiet
import Derived.Shelf.SlGeneric
import Derived.Shelf.Sort.Plain
import Derived.Shelf.Slices.In.SortNone
import Derived.Sort.OwnSorted
set_option linter.unusedVariables false
namespace Go.Proofs.YteckefolakjafaaGreatDoor
open Go Go.Proofs Go.RowKit Go.Lib

theorem le_bits (X Y : ByteArray) : (Op.bytesLess X.toList Y.toList || X.toList == Y.toList) = decide (¬ lst Y < lst X) := by
  have e1 : X.toList = lst X := Lib.toList_data X
  have e2 : Y.toList = lst Y := Lib.toList_data Y
  rw [e1, e2, bytesLess_eq]
  generalize lst X = x
  generalize lst Y = y
  rw [Bool.eq_iff_iff, Bool.or_eq_true, decide_eq_true_eq, decide_eq_true_eq, beq_iff_eq]
  exact (List.le_iff_lt_or_eq (l₁ := x) (l₂ := y)).symm
theorem strs_cell {w : World} {P : Nat → Prop} {A : Option Addr} {l : List Str} (h : S3.StrsIn w P A l) {k : Nat} (hk : k < l.length) : ∃ b off, A = some ⟨b, off, none⟩ ∧ P b ∧ ∀ j (hj : j < l.length), w.cell? ⟨b, off + j, none⟩ = some (.string (ba l[j])) := by
  obtain ⟨b, off, hA, hP, _⟩ := h.at_ hk
  refine ⟨b, off, hA, hP, fun j hj => ?_⟩
  obtain ⟨b', off', e, _, hc⟩ := h.at_ hj
  rw [hA] at e
  injection e with e
  injection e with e1 e2 _
  subst e1 e2
  exact hc

set_option maxHeartbeats 4000000 in
set_option maxRecDepth 100000 in
theorem areF_any (A : Option Addr) (l : List Str) (c : Nat) (Pp : Nat → Prop) (w : World) (h : S3.StrsIn w Pp A l) (hlc : l.length ≤ c) (hc : c ≤ 9223372036854775807) :
    Calls Tryz.prog 48 #[.slice A l.length c] w fun e w' => e = .returned (.bool (featB l)) ∧ w = w' := by
  obtain ⟨R, hR⟩ : ∃ R, featB l = R := ⟨_, rfl⟩
  rw [hR]
  have H := hid h
  have HR := hid hR
  clear hR h
  go_enter Tryz.func48, Tryz.ntmps48
  go_wp2
  go_loop [3, 4, 7] (fun _ _ iv => ∃ i : Nat, iv = .int .i64 (i : Int) ∧ i ≤ l.length ∧ Hid (featTo l i)) (fun _ _ iv => l.length - (RowKit.intOf iv).toNat)
  case atStart => exact ⟨0, rfl, Nat.zero_le _, hid ⟨fun j _ h => absurd h (Nat.not_lt_zero _), fun j _ h => absurd h (Nat.not_lt_zero _)⟩⟩
  case round =>
    obtain ⟨i, rfl, hi, hE⟩ := hrel
    by_cases hlt : i < l.length
    · have hltz : (i : Int) < (l.length : Int) := by omega
      obtain ⟨b, off, rfl, _, hcs⟩ := strs_cell H.out hlt
      have hc1 := hcs i hlt
      have cV := S3.valid_any (ba l[i])
      have HS := hid (featTo_step l i hlt hE.out)
      have HB := hid (featB_bad_code l i hlt)
      obtain ⟨x, hx⟩ : ∃ x, l[i] = x := ⟨_, rfl⟩
      have HXX := hid hx
      rw [hx] at hc1 cV HB
      rw [show (ba x).data.toList = x from rfl] at cV
      obtain ⟨X, hX⟩ : ∃ X, ba x = X := ⟨_, rfl⟩
      rw [hX] at hc1 cV
      have hXl : lst X = x := by rw [← hX]; rfl
      have HXL := hid hXl
      clear hx hX hXl
      cases hv : S3.validC x with
      | false =>
        rw [hv] at cV
        have hn : R = false := by rw [← HR.out]; exact HB.out hv
        subst hn
        clear hv HS HB hcs
        go_wp2_with fail
        refine (cV _).mono ?_
        rintro e w' ⟨rfl, rfl⟩
        go_wp2
        go_ret
        exact ⟨rfl, rfl⟩
      | true =>
        rw [hv] at cV
        by_cases h0 : i = 0
        · have h0z : ¬ (0 : Int) < (i : Int) := by omega
          have h0d : decide ((0 : Int) < (i : Int)) = false := decide_eq_false h0z
          have hst := hid (HS.out (by rw [HXX.out]; exact hv) (fun k hk => by omega))
          clear hv HS HB hcs h0
          go_wp2_with fail
          refine (cV _).mono ?_
          rintro e w' ⟨rfl, rfl⟩
          go_wp2
          go_round
          case rel => exact ⟨i + 1, by go_num, by omega, hst⟩
          case measure => simp [RowKit.intOf]; omega
        · obtain ⟨k, hk⟩ : ∃ k, k + 1 = i := ⟨i - 1, by omega⟩
          have h0z : (0 : Int) < (i : Int) := by omega
          have h0d : decide ((0 : Int) < (i : Int)) = true := decide_eq_true h0z
          have hkl : k < l.length := by omega
          have hc2 := hcs k hkl
          have q1 : IntKind.i64.wrap ((i : Int) - 1) = (k : Int) := by rw [show (i : Int) - 1 = (k : Int) by omega]; exact IntWalk.i64_in _ (by omega)
          have q2 : (i : Int) - 1 = (k : Int) := by omega
          have hkz : (k : Int) < (l.length : Int) := by omega
          obtain ⟨y, hy⟩ : ∃ y, l[k] = y := ⟨_, rfl⟩
          have HYY := hid hy
          rw [hy] at hc2
          obtain ⟨Y, hY⟩ : ∃ Y, ba y = Y := ⟨_, rfl⟩
          rw [hY] at hc2
          have hYl : lst Y = y := by rw [← hY]; rfl
          have hcmp := le_bits X Y
          rw [HXL.out, hYl] at hcmp
          clear hy hY hYl
          by_cases hlt2 : y < x
          · rw [decide_eq_false (fun h => h hlt2)] at hcmp
            have hst := hid (HS.out (by rw [HXX.out]; exact hv) (fun j hj => by
              obtain rfl : j = k := by omega
              rw [HYY.out, HXX.out]
              exact hlt2))
            have hc3 : Op.bytesLess X.toList Y.toList = false := by
              cases hb : Op.bytesLess X.toList Y.toList with
              | false => rfl
              | true => rw [hb] at hcmp; simp at hcmp
            have hc4 : (X.toList == Y.toList) = false := by rw [hc3, Bool.false_or] at hcmp; exact hcmp
            clear hv HS HB hcs h0 hcmp hlt2 hk
            go_wp2_with fail
            refine (cV _).mono ?_
            rintro e w' ⟨rfl, rfl⟩
            go_wp2
            go_round
            case rel => exact ⟨i + 1, by go_num, by omega, hst⟩
            case measure => simp [RowKit.intOf]; omega
          · rw [decide_eq_true hlt2] at hcmp
            have hn : R = false := by
              rw [← HR.out]
              refine featB_bad_order l k (by omega) ?_
              rw [HYY.out]
              have : l[k + 1]'(by omega) = x := by
                rw [← HXX.out]
                congr 1
              rw [this]
              exact hlt2
            subst hn
            clear hv HS HB hcs h0 hlt2 hk
            rcases Bool.or_eq_true _ _ ▸ hcmp with h5 | h5
            · go_wp2_with fail
              refine (cV _).mono ?_
              rintro e w' ⟨rfl, rfl⟩
              go_wp2
              go_ret
              exact ⟨rfl, rfl⟩
            · go_wp2_with fail
              refine (cV _).mono ?_
              rintro e w' ⟨rfl, rfl⟩
              go_wp2
              go_ret
              exact ⟨rfl, rfl⟩
    · have hltz : ¬ (i : Int) < (l.length : Int) := by omega
      have hn : R = true := by
        rw [← HR.out]
        obtain rfl : i = l.length := by omega
        exact featTo_all l hE.out
      subst hn
      go_wp2
      go_ret
      exact ⟨rfl, rfl⟩
end Go.Proofs.YteckefolakjafaaGreatDoor

set_option linter.unusedVariables false
namespace Go.Proofs.YteckefolakjafaaGreatDoor
open Go Go.Proofs Go.RowKit Go.Lib

set_option maxHeartbeats 4000000 in
set_option maxRecDepth 100000 in
theorem rises_any (A : Option Addr) (l : List Str) (c : Nat) (Pp : Nat → Prop) (w : World) (h : S3.StrsIn w Pp A l) (hlc : l.length ≤ c) (hc : c ≤ 9223372036854775807) :
    Calls Tryz.prog 52 #[.slice A l.length c] w fun e w' => e = .returned (.bool (risesL l)) ∧ ∃ q, w' = w.drewN q := by
  obtain ⟨R, hR⟩ : ∃ R, risesL l = R := ⟨_, rfl⟩
  rw [hR]
  have H := hid h
  have HR := hid hR
  clear hR h
  go_enter Tryz.func52, Tryz.ntmps52
  go_wp2
  go_loopw [3] (fun iv wr => ∃ i : Nat, iv = .int .i64 (i : Int) ∧ 1 ≤ i ∧ i ≤ l.length + 1 ∧ Hid (∀ j (hj : j + 1 < l.length), j + 1 < i → l[j] < l[j + 1]) ∧ ∃ q, wr = w.drewN q) (fun iv _ => l.length + 1 - (RowKit.intOf iv).toNat)
  case atStart => exact ⟨1, rfl, Nat.le_refl _, by omega, hid (fun j _ h => by omega), 0, rfl⟩
  case round =>
    obtain ⟨i, rfl, hi1, hi, hE, q, rfl⟩ := hrel
    by_cases hlt : i < l.length
    · have hltz : (i : Int) < (l.length : Int) := by omega
      obtain ⟨b, off, rfl, _, hcs⟩ := strs_cell H.out hlt
      have hc1 := hcs i hlt
      obtain ⟨k, hk⟩ : ∃ k, k + 1 = i := ⟨i - 1, by omega⟩
      have hkl : k < l.length := by omega
      have hc2 := hcs k hkl
      have q1 : IntKind.i64.wrap ((i : Int) - 1) = (k : Int) := by rw [show (i : Int) - 1 = (k : Int) by omega]; exact IntWalk.i64_in _ (by omega)
      have q2 : (i : Int) - 1 = (k : Int) := by omega
      have hkz : (k : Int) < (l.length : Int) := by omega
      have d1 : decide ((l.length : Int) ≤ (i : Int)) = false := decide_eq_false (by omega)
      have d2 : decide ((l.length : Int) ≤ (k : Int)) = false := decide_eq_false (by omega)
      have d3 : decide (l.length ≤ i) = false := decide_eq_false (by omega)
      have d4 : decide (l.length ≤ k) = false := decide_eq_false (by omega)
      obtain ⟨x, hx⟩ : ∃ x, l[i] = x := ⟨_, rfl⟩
      have HXX := hid hx
      rw [hx] at hc1
      obtain ⟨X, hX⟩ : ∃ X, ba x = X := ⟨_, rfl⟩
      rw [hX] at hc1
      have hXl : lst X = x := by rw [← hX]; rfl
      obtain ⟨y, hy⟩ : ∃ y, l[k] = y := ⟨_, rfl⟩
      have HYY := hid hy
      rw [hy] at hc2
      obtain ⟨Y, hY⟩ : ∃ Y, ba y = Y := ⟨_, rfl⟩
      rw [hY] at hc2
      have hYl : lst Y = y := by rw [← hY]; rfl
      have hcmp := le_bits X Y
      rw [hXl, hYl] at hcmp
      clear hx hX hXl hy hY hYl
      by_cases hlt2 : y < x
      · rw [decide_eq_false (fun h => h hlt2)] at hcmp
        have hst : Hid (∀ j (hj : j + 1 < l.length), j + 1 < i + 1 → l[j] < l[j + 1]) := hid (fun j hj hji => by
          by_cases e : j + 1 < i
          · exact hE.out j hj e
          · obtain rfl : j = k := by omega
            subst hk
            rw [HYY.out, HXX.out]
            exact hlt2)
        have hc3 : Op.bytesLess X.toList Y.toList = false := by
          cases hb : Op.bytesLess X.toList Y.toList with
          | false => rfl
          | true => rw [hb] at hcmp; simp at hcmp
        have hc4 : (X.toList == Y.toList) = false := by rw [hc3, Bool.false_or] at hcmp; exact hcmp
        clear hcs hcmp hlt2 hk
        go_wp2
        go_quiet (fail)
        go_wp2
        go_roundw
        case rel => exact ⟨i + 1, by go_num, by omega, by omega, hst, q + nq, by first | rfl | rw [World.drewN_drewN]⟩
        case measure => simp [RowKit.intOf]; omega
      · rw [decide_eq_true hlt2] at hcmp
        have hn : R = false := by
          rw [← HR.out]
          refine rises_false l k (by omega) ?_
          rw [HYY.out]
          have : l[k + 1]'(by omega) = x := by
            rw [← HXX.out]
            congr 1
          rw [this]
          exact hlt2
        subst hn
        clear hcs hlt2 hk
        go_wp2
        go_quiet (fail)
        go_wp2
        go_ret
        exact ⟨rfl, q + nq, by first | rfl | rw [World.drewN_drewN]⟩
    · have hltz : ¬ (i : Int) < (l.length : Int) := by omega
      have hn : R = true := by
        rw [← HR.out]
        exact (rises_iff l).2 (fun j hj => hE.out j hj (by omega))
      subst hn
      go_wp2
      go_ret
      exact ⟨rfl, q, rfl⟩

set_option maxHeartbeats 4000000 in
set_option maxRecDepth 100000 in
theorem rcodes_any (A : Option Addr) (l : List Str) (c : Nat) (Pp : Nat → Prop) (w : World) (h : S3.StrsIn w Pp A l) (hlc : l.length ≤ c) (hc : c ≤ 9223372036854775807) :
    Calls Tryz.prog 26 #[.slice A l.length c] w fun e w' => e = .returned (.bool (featB l)) ∧ ∃ q, w' = w.drewN q := by
  have cR := hid (rises_any A l c Pp w h hlc hc)
  obtain ⟨R, hR⟩ : ∃ R, featB l = R := ⟨_, rfl⟩
  rw [hR]
  have H := hid h
  have HR := hid hR
  clear hR h
  go_enter Tryz.func26, Tryz.ntmps26
  go_wp2
  go_loop [3] (fun iv => ∃ i : Nat, iv = .int .i64 (i : Int) ∧ i ≤ l.length ∧ Hid (∀ j (hj : j < l.length), j < i → S3.validC l[j] = true)) (fun iv => l.length - (RowKit.intOf iv).toNat)
  case atStart => exact ⟨0, rfl, Nat.zero_le _, hid (fun j _ h => absurd h (Nat.not_lt_zero _))⟩
  case round =>
    obtain ⟨i, rfl, hi, hE⟩ := hrel
    by_cases hlt : i < l.length
    · have hltz : (i : Int) < (l.length : Int) := by omega
      obtain ⟨b, off, rfl, _, hcs⟩ := strs_cell H.out hlt
      have hc1 := hcs i hlt
      have cV := S3.refValid_any (ba l[i])
      have HB := hid (featB_bad_code l i hlt)
      obtain ⟨x, hx⟩ : ∃ x, l[i] = x := ⟨_, rfl⟩
      have HXX := hid hx
      rw [hx] at hc1 cV HB
      rw [show (ba x).data.toList = x from rfl] at cV
      obtain ⟨X, hX⟩ : ∃ X, ba x = X := ⟨_, rfl⟩
      rw [hX] at hc1 cV
      clear hx hX hcs
      cases hv : S3.validC x with
      | false =>
        rw [hv] at cV
        have hn : R = false := by rw [← HR.out]; exact HB.out hv
        subst hn
        clear hv HB
        go_wp2_with fail
        refine (cV _).mono ?_
        rintro e w' ⟨rfl, rfl⟩
        go_wp2
        go_ret
        exact ⟨rfl, 0, rfl⟩
      | true =>
        rw [hv] at cV
        have hst : Hid (∀ j (hj : j < l.length), j < i + 1 → S3.validC l[j] = true) := hid (fun j hj hji => by
          by_cases e : j < i
          · exact hE.out j hj e
          · obtain rfl : j = i := by omega
            rw [HXX.out]
            exact hv)
        clear hv HB
        go_wp2_with fail
        refine (cV _).mono ?_
        rintro e w' ⟨rfl, rfl⟩
        go_wp2
        go_round
        case rel => exact ⟨i + 1, by go_num, by omega, hst⟩
        case measure => simp [RowKit.intOf]; omega
    · have hltz : ¬ (i : Int) < (l.length : Int) := by omega
      have hall : l.all S3.validC = true := by
        rw [List.all_eq_true]
        intro x hx
        obtain ⟨j, hj, rfl⟩ := List.mem_iff_getElem.1 hx
        exact hE.out j hj (by omega)
      have hn : risesL l = R := by rw [← HR.out]; unfold featB; rw [hall, Bool.true_and]
      have cR' := cR.out
      rw [hn] at cR'
      have CR := hid cR'
      clear hn hall cR' cR
      go_wp2_with fail
      refine CR.out.mono ?_
      rintro e w' ⟨rfl, q, rfl⟩
      go_wp2
      go_ret
      exact ⟨rfl, q, rfl⟩
end Go.Proofs.YteckefolakjafaaGreatDoor

namespace Go.Proofs
open Go.Shelf
def Tryz.lays190_ren : Go.Shelf.Ren := ⟨fun | 190 => 86 | 125 => 109 | 258 => 108 | 128 => 148 | 129 => 149 | 302 => 139 | 303 => 140 | 304 => 141 | 305 => 142 | 306 => 143 | 307 => 144 | 308 => 145 | 309 => 146 | 310 => 147 | 333 => 176 | 329 => 177 | 330 => 178 | 334 => 179 | 335 => 180 | 336 => 181 | 344 => 196 | n => n, fun | 31 => 43 | 9 => 9 | 3 => 3 | 46 => 112 | 0 => 0 | 51 => 183 | 53 => 160 | 4 => 4 | 183 => 177 | 182 => 176 | 131 => 97 | 5 => 5 | 218 => 213 | 222 => 217 | 228 => 229 | 229 => 151 | n => n, fun | n => n⟩
theorem Tryz.lays190 : Go.Proofs.Lays.n190 Tryz.prog Tryz.lays190_ren := {
  mixed := by kernel_rfl
  f125 := Tryz.func109.trans (congrArg some (by kernel_rfl))
  f128 := Tryz.func148.trans (congrArg some (by kernel_rfl))
  f129 := Tryz.func149.trans (congrArg some (by kernel_rfl))
  f190 := Tryz.func86.trans (congrArg some (by kernel_rfl))
  f258 := Tryz.func108.trans (congrArg some (by kernel_rfl))
  f302 := Tryz.func139.trans (congrArg some (by kernel_rfl))
  f303 := Tryz.func140.trans (congrArg some (by kernel_rfl))
  f304 := Tryz.func141.trans (congrArg some (by kernel_rfl))
  f305 := Tryz.func142.trans (congrArg some (by kernel_rfl))
  f306 := Tryz.func143.trans (congrArg some (by kernel_rfl))
  f307 := Tryz.func144.trans (congrArg some (by kernel_rfl))
  f308 := Tryz.func145.trans (congrArg some (by kernel_rfl))
  f309 := Tryz.func146.trans (congrArg some (by kernel_rfl))
  f310 := Tryz.func147.trans (congrArg some (by kernel_rfl))
  f329 := Tryz.func177.trans (congrArg some (by kernel_rfl))
  f330 := Tryz.func178.trans (congrArg some (by kernel_rfl))
  f333 := Tryz.func176.trans (congrArg some (by kernel_rfl))
  f334 := Tryz.func179.trans (congrArg some (by kernel_rfl))
  f335 := Tryz.func180.trans (congrArg some (by kernel_rfl))
  f336 := Tryz.func181.trans (congrArg some (by kernel_rfl))
  f344 := Tryz.func196.trans (congrArg some (by kernel_rfl))
  t0 := Tryz.underlying0
  a0 := Tryz.isAgg0
  z0 := Tryz.sizeOf0
  v0 := Tryz.zeroValue0
  t3 := Tryz.underlying3
  a3 := Tryz.isAgg3
  z3 := Tryz.sizeOf3
  v3 := Tryz.zeroValue3
  t4 := Tryz.underlying4
  a4 := Tryz.isAgg4
  z4 := Tryz.sizeOf4
  v4 := Tryz.zeroValue4
  t5 := Tryz.underlying5
  a5 := Tryz.isAgg5
  z5 := Tryz.sizeOf5
  v5 := Tryz.zeroValue5
  t9 := Tryz.underlying9
  a9 := Tryz.isAgg9
  z9 := Tryz.sizeOf9
  v9 := Tryz.zeroValue9
  t31 := Tryz.underlying43
  a31 := Tryz.isAgg43
  z31 := Tryz.sizeOf43
  v31 := Tryz.zeroValue43
  t46 := Tryz.underlying112
  a46 := Tryz.isAgg112
  z46 := Tryz.sizeOf112
  v46 := Tryz.zeroValue112
  t51 := Tryz.underlying183
  a51 := Tryz.isAgg183
  z51 := Tryz.sizeOf183
  v51 := Tryz.zeroValue183
  t53 := Tryz.underlying160
  a53 := Tryz.isAgg160
  z53 := Tryz.sizeOf160
  v53 := Tryz.zeroValue160
  t131 := Tryz.underlying97
  a131 := Tryz.isAgg97
  z131 := Tryz.sizeOf97
  v131 := Tryz.zeroValue97
  t182 := Tryz.underlying176
  a182 := Tryz.isAgg176
  z182 := Tryz.sizeOf176
  v182 := Tryz.zeroValue176
  t183 := Tryz.underlying177
  a183 := Tryz.isAgg177
  z183 := Tryz.sizeOf177
  v183 := Tryz.zeroValue177
  t218 := Tryz.underlying213
  a218 := Tryz.isAgg213
  z218 := Tryz.sizeOf213
  v218 := Tryz.zeroValue213
  t222 := Tryz.underlying217
  a222 := Tryz.isAgg217
  z222 := Tryz.sizeOf217
  v222 := Tryz.zeroValue217
  t228 := Tryz.underlying229
  a228 := Tryz.isAgg229
  z228 := Tryz.sizeOf229
  v228 := Tryz.zeroValue229
  t229 := Tryz.underlying151
  a229 := Tryz.isAgg151
  z229 := Tryz.sizeOf151
  v229 := Tryz.zeroValue151 }
end Go.Proofs

set_option linter.unusedVariables false
namespace Go.Proofs.YteckefolakjafaaGreatDoor
open Go Go.Proofs Go.RowKit Go.Lib

set_option maxHeartbeats 2000000 in
theorem readCode_any (s : ByteArray) (w : World) : Calls Tryz.prog 55 #[.string s] w fun e w' => e = .returned (.tuple #[.string (if S3.validC (lst s) = true then s else ⟨#[]⟩), .int .i64 (if S3.validC (lst s) = true then 0 else 10)]) ∧ w' = w := by
  have cV := fun w => S3.valid_any s w
  cases hv : S3.validC (lst s) with
  | false =>
    rw [show s.data.toList = lst s from rfl, hv] at cV
    rw [if_neg (by simp), if_neg (by simp)]
    clear hv
    go_enter Tryz.func55, Tryz.ntmps55
    go_wp2_with fail
    refine (cV _).mono ?_
    rintro e w' ⟨rfl, rfl⟩
    go_wp2
    go_ret2
    exact ⟨rfl, rfl⟩
  | true =>
    rw [show s.data.toList = lst s from rfl, hv] at cV
    rw [if_pos rfl, if_pos rfl]
    clear hv
    go_enter Tryz.func55, Tryz.ntmps55
    go_wp2_with fail
    refine (cV _).mono ?_
    rintro e w' ⟨rfl, rfl⟩
    go_wp2
    go_ret2
    exact ⟨rfl, rfl⟩

set_option maxHeartbeats 2000000 in
/-- Read of numerals at four digits. -/
theorem read4_any (s : ByteArray) (w : World) (hE : Env w) : Calls Tryz.prog 84 #[.string s, .int .i64 4] w fun e w' => e = .returned (.tuple #[.int .i64 ((numD 4 (lst s) : Nat) : Int), .bool (decide (numD 4 (lst s) ≠ 0))]) ∧ Below w.heap.size w w' := by
  obtain ⟨N, hN⟩ : ∃ N, numD 4 (lst s) = N := ⟨_, rfl⟩
  rw [hN]
  by_cases h0 : 0 < s.size
  · obtain ⟨x1, x2, x3, x4⟩ := str_no h0
    obtain ⟨r, hr⟩ := lst_cons h0
    by_cases h2 : s.size ≤ 4
    · have h2' : (s.size : Int) ≤ 4 := by omega
      obtain ⟨a, ha⟩ : ∃ a, s[0]'h0 = a := ⟨_, rfl⟩
      rw [ha] at hr
      by_cases h3 : a.toNat < 49
      · have h3' : (a.toNat : Int) < 49 := by omega
        have : N = 0 := by rw [← hN, hr, numD_low h3]
        subst this
        clear hN hr hE
        go_enter Tryz.func84, Tryz.ntmps84
        go_wp2
        go_ret2
        exact ⟨rfl, Below.refl _ _⟩
      · have h3' : ¬ (a.toNat : Int) < 49 := by omega
        have hat := atoi_numD 4 (lst s) a r hr (by rw [← Lib.size_eq]; exact h2) (by omega)
        rw [hN] at hat
        obtain ⟨ev, hev, hev2⟩ := hE.ev
        by_cases hn0 : N = 0
        · subst hn0
          rw [if_pos rfl] at hat
          have cA := hid (Tryz.strconv_Atoi_err s (by omega) hat ev w hev hev2)
          clear hN hr hE hat hev hev2
          go_enter Tryz.func84, Tryz.ntmps84
          go_wp2_with fail
          refine cA.out.mono ?_
          rintro e w' ⟨M, rfl, _, _, hb⟩
          have HB := hid hb
          clear hb
          go_wp2
          go_ret2
          exact ⟨rfl, HB.out⟩
        · rw [if_neg hn0] at hat
          have cA := hid (Tryz.strconv_Atoi s N (by omega) hat w)
          have hd : decide (N ≠ 0) = true := decide_eq_true hn0
          rw [hd]
          clear hN hr hE hat hev hev2 hd hn0
          go_enter Tryz.func84, Tryz.ntmps84
          go_wp2_with fail
          refine cA.out.mono ?_
          rintro e w' ⟨rfl, t, hw⟩
          have HB : Hid (Below w.heap.size w w') := hid (by rw [hw]; exact Lib.bytesWorld_below _ _ _)
          clear hw
          go_wp2
          go_ret2
          exact ⟨rfl, HB.out⟩
    · have h2' : ¬ (s.size : Int) ≤ 4 := by omega
      have : N = 0 := by rw [← hN, numD_long (by rw [← Lib.size_eq]; omega)]
      subst this
      clear hN hr hE
      go_enter Tryz.func84, Tryz.ntmps84
      go_wp2
      go_ret2
      exact ⟨rfl, Below.refl _ _⟩
  · obtain ⟨x1, x2, x3, x4⟩ := str_yes h0
    have : N = 0 := by rw [← hN, lst_nil h0]; rfl
    subst this
    clear hN hE
    go_enter Tryz.func84, Tryz.ntmps84
    go_wp2
    go_ret2
    exact ⟨rfl, Below.refl _ _⟩

set_option maxHeartbeats 2000000 in
theorem readSeats_any (s : ByteArray) (w : World) (hE : Env w) : Calls Tryz.prog 56 #[.string s] w fun e w' => e = .returned (.tuple #[.int .i64 (seatsM (lst s)).1, .int .i64 (seatsM (lst s)).2]) ∧ Below w.heap.size w w' := by
  have cR := hid (read4_any s w hE)
  unfold seatsM
  by_cases h : numD 4 (lst s) = 0
  · rw [if_pos h]
    have cR' := cR.out
    rw [h, decide_eq_false (fun k => k rfl)] at cR'
    have CR := hid cR'
    clear cR cR' h hE
    go_enter Tryz.func56, Tryz.ntmps56
    go_wp2_with fail
    refine CR.out.mono ?_
    rintro e w' ⟨rfl, hb⟩
    have HB := hid hb
    clear hb
    go_wp2
    go_ret2
    exact ⟨rfl, HB.out⟩
  · rw [if_neg h]
    have cR' := cR.out
    rw [decide_eq_true h] at cR'
    obtain ⟨N, hN⟩ : ∃ N, numD 4 (lst s) = N := ⟨_, rfl⟩
    rw [hN] at cR' ⊢
    have CR := hid cR'
    clear cR cR' h hE hN
    go_enter Tryz.func56, Tryz.ntmps56
    go_wp2_with fail
    refine CR.out.mono ?_
    rintro e w' ⟨rfl, hb⟩
    have HB := hid hb
    clear hb
    go_wp2
    go_ret2
    exact ⟨rfl, HB.out⟩

/-- Sort of a slice of strings of the call's own. -/
theorem sortRow (v : Value) (l : List Str) (B : Nat) (w : World) (h : S3.StrRow w B v l) (hB : B ≤ w.heap.size) (hl : l.length ≤ 1000) :
    Calls Tryz.prog 86 #[v] w fun e w' => e = .returned (.tuple #[]) ∧ S3.StrRow w' B v (sortS l) ∧ Below B w w' := by
  have h' := h
  rcases h.2 with ⟨hv, h0⟩ | ⟨g, cap, cur, hv, hg0, hg, h1, h2, h3, h4⟩
  · have hl : l = [] := List.eq_nil_of_length_eq_zero h0
    subst hl
    subst hv
    refine (Any.slices_Sort_string_none Tryz.lays190 none 0 w).mono ?_
    rintro e w' ⟨rfl, rfl⟩
    exact ⟨rfl, by rw [show sortS [] = [] by simp [sortS]]; exact h', Below.refl _ _⟩
  · subst hv
    have hlt := (Array.getElem?_eq_some_iff.1 hg).1
    have hH := holds_of_block (ss := l) hg (by have h5 := h4; rw [Nat.mul_one] at h5; exact h5)
    refine (Any.slices_Sort_string Tryz.lays190 g 0 cap l w hH hlt (by omega)).mono ?_
    rintro e w' ⟨rfl, n, os, rfl⟩
    refine ⟨rfl, ?_, (Below.refl _ w).grown (grownBy_sorted _) hB (fun k hk => by injection hk; omega)⟩
    have := ownsRow_sorted (n := n) (os := os) (ts := sortS l) (sortS_len l) hg0 hg h1 h2 h3
    unfold S3.StrRow
    rw [sortS_len]
    exact this

set_option maxHeartbeats 4000000 in
set_option maxRecDepth 100000 in
theorem readFeatures_any (s : ByteArray) (hs : s.size < 4294967281) (w : World) (hE : S3.Env w) : Calls Tryz.prog 57 #[.string s] w (S3.ListOut (featsM (lst s)) w) := by
  have cL := hid (S3.list_any s hs w hE)
  unfold S3.ListOut featsM
  have cL' := cL.out
  unfold S3.ListOut at cL'
  rw [show S3.lst s = lst s from rfl] at cL'
  obtain ⟨⟨l, e0⟩, hR⟩ : ∃ R, S3.listM (lst s) = R := ⟨_, rfl⟩
  rw [hR] at cL' ⊢
  dsimp only at cL' ⊢
  have CL := hid cL'
  clear cL cL' hR hE
  by_cases h0 : e0 = 0
  · subst h0
    rw [if_neg (by simp)]
    by_cases h8 : 8 < l.length
    · rw [if_pos h8]
      have h8z : (8 : Int) < (l.length : Int) := by omega
      go_enter Tryz.func57, Tryz.ntmps57
      go_wp2_with fail
      refine CL.out.mono ?_
      rintro e w1 ⟨⟨v, rfl, hrow⟩, hb⟩
      obtain ⟨A, c, rfl, _⟩ := hrow.strsIn
      have HB := hid hb
      clear hb hrow
      go_wp2
      go_ret2
      exact ⟨⟨_, rfl, World.ownsRow_nil _ _ _ _⟩, HB.out⟩
    · rw [if_neg h8]
      have h8z : ¬ (8 : Int) < (l.length : Int) := by omega
      go_enter Tryz.func57, Tryz.ntmps57
      go_wp2_with fail
      refine CL.out.mono ?_
      rintro e w1 ⟨⟨v, rfl, hrow⟩, hb⟩
      have cS := sortRow v l w.heap.size w1 hrow hb.size (by omega)
      obtain ⟨A, c, rfl, _⟩ := hrow.strsIn
      have CS := hid cS
      have HB := hid hb
      clear hb hrow cS
      go_wp2_with fail
      refine CS.out.mono ?_
      rintro e w2 ⟨rfl, hrow2, hb2⟩
      have HR2 := hid hrow2
      have HB2 := hid (HB.out.trans hb2)
      clear hrow2 hb2
      go_wp2
      go_ret2
      exact ⟨⟨_, rfl, HR2.out⟩, HB2.out⟩
  · rw [if_pos h0]
    have e1 : (e0 != 0) = true := by simpa using h0
    have e2 : (e0 == 0) = false := by simpa using h0
    go_enter Tryz.func57, Tryz.ntmps57
    go_wp2_with fail
    refine CL.out.mono ?_
    rintro e w1 ⟨⟨v, rfl, hrow⟩, hb⟩
    have HB := hid hb
    clear hb hrow
    go_wp2
    go_ret2
    exact ⟨⟨_, rfl, World.ownsRow_nil _ _ _ _⟩, HB.out⟩
end Go.Proofs.YteckefolakjafaaGreatDoor

