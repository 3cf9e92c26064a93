/-
  The code whose number is greater: the program's after. Conditions: the library's variables hold what its text lays; the numbers are small. How many codes a .. Conditions: as stated.
-/
import Derived.Test.YtlgmanbilaminaaGreatDoorMN04
import Derived.Deep.RegionHeld3
import Derived.RangeFuncNested
import Derived.RangeFuncBound
import Derived.Shelf.RegionOpen
import Derived.OwnWalkIn
import Derived.LoopNIn
import Derived.LoopIn
set_option linter.unusedVariables false
namespace Go.Proofs.YtlgmanbilaminaaGreatDoor.S3
open Go Go.Proofs Go.RowKit Go.Lib Go.Sort
theorem grow_below (w : World) (k : Nat) (os : Array Obj) : Below w.heap.size w (grow (w.drewN k) os) := by
  have h := below_drewN (Below.refl w.heap.size w) k
  refine ⟨h.os, h.tape, h.output, ?_, fun b hb => ?_⟩
  · show w.heap.size ≤ ((w.drewN k).heap ++ os).size
    have := h.size
    rw [Array.size_append]
    omega
  · show ((w.drewN k).heap ++ os)[b]? = _
    have := h.size
    rw [Array.getElem?_append_left (by omega)]
    exact h.block b hb
theorem repeat_zeros : ∀ k : Nat, Lib.repeatL [48] k = zerosS k := by
  intro k
  induction k with
  | zero => rfl
  | succ k ih => simp [Lib.repeatL, zerosS, List.replicate_succ] at ih ⊢; try exact ih
theorem lst_add (a b : ByteArray) : lst (a ++ b) = lst a ++ lst b := by simp [lst]
def StrOut (l : Str) (w : World) (e : Ending) (w' : World) : Prop := (∃ R : ByteArray, e = .returned (.string R) ∧ lst R = l) ∧ Below w.heap.size w w'
set_option maxHeartbeats 4000000 in
set_option maxRecDepth 100000 in
theorem after_any (P : ByteArray) (num wd n : Nat) (hP : P.size ≤ 16) (hn : num + n ≤ 1000000000000000000) (hw : wd ≤ 16) (w : World) (hE : Env w) :
    Calls Tryz.prog 127 #[.agg #[.string P, .int .i64 (num : Int), .int .i64 (wd : Int)], .int .i64 (n : Int)] w (StrOut (lst P ++ wrS (num + n) wd) w) := by
  have e1 : IntKind.i64.wrap ((num : Int) + (n : Int)) = ((num + n : Nat) : Int) := by rw [IntWalk.i64_in _ (by omega)]; omega
  have hlen := dec_len (num + n) 19 (by have : (10 : Nat) ^ 19 = 10000000000000000000 := by decide
                                        omega) (by omega)
  have cI := Tryz.strconv_Itoa ((num + n : Nat) : Int) (by omega) (by omega)
  obtain ⟨N, hN⟩ : ∃ N : ByteArray, (⟨(Lib.itoa ((num + n : Nat) : Int)).toArray⟩ : ByteArray) = N := ⟨_, rfl⟩
  have hNl : lst N = decDigits (num + n) := by
    rw [← hN]
    show Lib.itoa ((num + n : Nat) : Int) = _
    unfold Lib.itoa
    rw [if_neg (by omega), Int.toNat_natCast]
  rw [hN] at cI
  have hNs : N.size = (decDigits (num + n)).length := by rw [← hNl]; exact Lib.size_eq N
  have HN := hid hNl
  have HNS := hid hNs
  have hNs2 : N.size ≤ 19 := by omega
  have CI := hid cI
  have HE := hid hE
  obtain ⟨M, hM⟩ : ∃ M, num + n = M := ⟨_, rfl⟩
  rw [hM] at e1 CI HN HNS ⊢
  clear hN hNl hNs cI hE hlen
  go_enter Tryz.func127, Tryz.ntmps127
  have hba : Below w.heap.size w (w.alloc (.cells #[.string P, .int .i64 (num : Int), .int .i64 (wd : Int)] 158)) := (Below.refl _ w).alloc (Nat.le_refl _) _
  have hz0 : (w.alloc (.cells #[.string P, .int .i64 (num : Int), .int .i64 (wd : Int)] 158)).heap[w.heap.size]? = some (.cells #[.string P, .int .i64 (num : Int), .int .i64 (wd : Int)] 158 (0, 0)) := heap_alloc_new w _
  have hzs : w.heap.size < (w.alloc (.cells #[.string P, .int .i64 (num : Int), .int .i64 (wd : Int)] 158)).heap.size := by simp
  have HBA := hid hba
  have HZ0 := hid hz0
  clear hba hz0
  go_wp2_with fail
  generalize w.alloc (.cells #[.string P, .int .i64 (num : Int), .int .i64 (wd : Int)] 158) = w1 at HBA HZ0 hzs ⊢
  refine (CI.out _ ((HE.out.below HBA.out).tab)).mono ?_
  rintro e w2 ⟨rfl, k, os, hw2⟩
  have hb2 : Below w1.heap.size w1 w2 := by rw [hw2]; exact grow_below _ _ _
  have hz2 := (hb2.block _ hzs).trans HZ0.out
  have HB2 := hid (HBA.out.trans (hb2.mono HBA.out.size))
  have c0 : w2.cell? ⟨w.heap.size, 0, none⟩ = some (.string P) := by rw [Lib.cell_of_heap hz2]; rfl
  have c1 : w2.cell? ⟨w.heap.size, 1, none⟩ = some (.int .i64 (num : Int)) := by rw [Lib.cell_of_heap hz2]; rfl
  have c2 : w2.cell? ⟨w.heap.size, 2, none⟩ = some (.int .i64 (wd : Int)) := by rw [Lib.cell_of_heap hz2]; rfl
  have hzs2 : w.heap.size < w2.heap.size := Nat.lt_of_lt_of_le hzs hb2.size
  have HZ2 := hid hz2
  obtain ⟨z, hz, hz16⟩ : ∃ z : Nat, z = wd - N.size ∧ z ≤ 16 := ⟨_, rfl, by omega⟩
  have hmax : max 0 ((wd : Int) - (N.size : Int)) = (z : Int) := by omega
  have HZ := hid hz
  clear hw2 hb2 hz2 hz HBA HZ0 CI HE hzs
  obtain ⟨Z, hZ⟩ : ∃ Z : ByteArray, (⟨(Lib.repeatL (⟨#[48]⟩ : ByteArray).data.toList z).toArray⟩ : ByteArray) = Z := ⟨_, rfl⟩
  have hZl : lst Z = zerosS z := by rw [← hZ]; exact repeat_zeros z
  have hZs : Z.size = z := by rw [show Z.size = (lst Z).length from Lib.size_eq Z, hZl]; simp [zerosS]
  have cR := fun w => Tryz.strings_Repeat ⟨#[48]⟩ z w (by omega) (by rw [show (⟨#[48]⟩ : ByteArray).size = 1 from rfl]; omega)
  rw [hZ] at cR
  have add1 : ∀ w, (Op.stringOp .add P Z).run Tryz.prog w = .ok (.string (P ++ Z)) w := fun w => run_string_add_sum (w := w) _ _ (by omega)
  have add2 : ∀ w, (Op.stringOp .add (P ++ Z) N).run Tryz.prog w = .ok (.string (P ++ Z ++ N)) w := fun w => run_string_add_sum (w := w) _ _ (by rw [ByteArray.size_append]; omega)
  have hfin : Hid (lst (P ++ Z ++ N) = lst P ++ wrS M wd) := hid (by
    rw [lst_add, lst_add, hZl, HN.out, List.append_assoc]
    unfold wrS
    rw [← HNS.out, HZ.out])
  clear hZ hZl hZs c1
  go_wp2_with fail
  try rw [hmax]
  clear hmax c2 hz16 hNs2
  go_region_held3 (fun w' => w'.cell? ⟨w.heap.size, 0, none⟩ = some (.string P)) (go_keep) (first | (go_at_call 151; refine (cR _).mono ?_; rintro e w' ⟨rfl, hb'⟩; have c0' := (hb'.cell (p := ⟨w.heap.size, 0, none⟩) hzs2).trans c0; have HB' := hid hb'))
  all_goals
    go_wp2
    go_ret
    exact ⟨⟨_, rfl, hfin.out⟩, HB2.out.trans (((Below.refl w.heap.size w2).drew).trans (HB'.out.mono HB2.out.size))⟩
end Go.Proofs.YtlgmanbilaminaaGreatDoor.S3
namespace Go.Proofs.YtlgmanbilaminaaGreatDoor.S3
open Go Go.Proofs Go.RowKit Go.Lib
def rangeN (a b : Str) : Nat := if hasL a = true ∧ hasL b = true ∧ numL a ≤ numL b ∧ preS a ++ wrS (numL b) (lastS a).length = b then numL b - numL a + 1 else 0
theorem len16 {s : ByteArray} (h : s.size ≤ 16) : (lst s).length ≤ 16 := by rw [← Lib.size_eq]; exact h
theorem last_len (l : Str) (h : l.length ≤ 16) : (lastS l).length ≤ 16 ∧ (preS l).length ≤ 16 := by
  have := congrArg List.length (pre_split l)
  rw [List.length_append] at this
  omega
theorem numL_small (l : Str) (h : l.length ≤ 16) : numL l < 10000000000000000 := numN_small _ (last_dgs l) (last_len l h).1
theorem str_eq {a b : ByteArray} : (lst a = lst b ∧ (a.toList == b.toList) = true ∧ (!a.toList == b.toList) = false) ∨ (lst a ≠ lst b ∧ (a.toList == b.toList) = false ∧ (!a.toList == b.toList) = true) := by
  rw [Lib.toList_data, Lib.toList_data]
  by_cases h : lst a = lst b
  · have h' : (a.data.toList == b.data.toList) = true := by simpa using h
    exact .inl ⟨h, h', by rw [h']; rfl⟩
  · have h' : (a.data.toList == b.data.toList) = false := by simpa using h
    exact .inr ⟨h, h', by rw [h']; rfl⟩
set_option maxHeartbeats 4000000 in
set_option maxRecDepth 100000 in
theorem rangeLength_any (a b : ByteArray) (ha : a.size ≤ 16) (hb : b.size ≤ 16) (w : World) (hE : Env w) :
    Calls Tryz.prog 169 #[.string a, .string b] w fun e w' => e = .returned (.int .i64 (rangeN (lst a) (lst b) : Nat)) ∧ Below w.heap.size w w' := by
  obtain ⟨R, hR⟩ : ∃ R, rangeN (lst a) (lst b) = R := ⟨_, rfl⟩
  rw [hR]
  have na := numL_small (lst a) (len16 ha)
  have nb := numL_small (lst b) (len16 hb)
  have la := last_len (lst a) (len16 ha)
  have cA := divide_any a ha w hE
  have HR := hid hR
  have HE := hid hE
  have CA := hid cA
  clear hR hE cA
  go_enter Tryz.func169, Tryz.ntmps169
  go_wp2_with fail
  refine CA.out.mono ?_
  rintro e w1 ⟨⟨PA, rfl, hPA⟩, hb1⟩
  unfold divV
  have hPAs : PA.size ≤ 16 := by rw [Lib.size_eq, show PA.data.toList = _ from hPA]; exact la.2
  have HE1 := HE.out.below hb1
  obtain ⟨nA, hnA⟩ : ∃ n, numL (lst a) = n := ⟨_, rfl⟩
  obtain ⟨nB, hnB⟩ : ∃ n, numL (lst b) = n := ⟨_, rfl⟩
  obtain ⟨wA, hwA⟩ : ∃ n, (lastS (lst a)).length = n := ⟨_, rfl⟩
  have hwA16 : wA ≤ 16 := by rw [← hwA]; exact la.1
  rw [hnA] at na
  rw [hnB] at nb
  have hdef : Hid (R = if hasL (lst a) = true ∧ hasL (lst b) = true ∧ nA ≤ nB ∧ lst PA ++ wrS nB wA = lst b then nB - nA + 1 else 0) := hid (by rw [← HR.out]; unfold rangeN; rw [hnA, hnB, hwA, hPA])
  rw [hnA, hwA]
  have HNB := hid hnB
  have hz1 : (w1.alloc (.cells #[.string PA, .int .i64 (nA : Int), .int .i64 (wA : Int)] 158)).heap[w1.heap.size]? = some (.cells #[.string PA, .int .i64 (nA : Int), .int .i64 (wA : Int)] 158 (0, 0)) := heap_alloc_new w1 _
  have hba : Below w1.heap.size w1 (w1.alloc (.cells #[.string PA, .int .i64 (nA : Int), .int .i64 (wA : Int)] 158)) := (Below.refl _ w1).alloc (Nat.le_refl _) _
  have hsa : w1.heap.size < (w1.alloc (.cells #[.string PA, .int .i64 (nA : Int), .int .i64 (wA : Int)] 158)).heap.size := by simp
  have HZ1 := hid hz1
  have HB1 := hid (hb1.trans (hba.mono hb1.size))
  have HEa := hid (HE1.below hba)
  clear hz1 hba hb1 HE1 hnA hnB hwA hPA CA HR HE la
  go_wp2_with fail
  generalize w1.alloc (.cells #[.string PA, .int .i64 (nA : Int), .int .i64 (wA : Int)] 158) = w2 at HZ1 HB1 HEa hsa ⊢
  refine (divide_any b hb _ HEa.out).mono ?_
  rintro e w3 ⟨⟨PB, rfl, _⟩, hb3⟩
  unfold divV
  rw [HNB.out]
  obtain ⟨wB, hwB⟩ : ∃ n, (lastS (lst b)).length = n := ⟨_, rfl⟩
  rw [hwB]
  clear hwB
  have hz3 := (hb3.block _ hsa).trans HZ1.out
  have HB3 := hid (HB1.out.trans (hb3.mono HB1.out.size))
  have HE3 := HEa.out.below hb3
  have hs3 : w1.heap.size < w3.heap.size := Nat.lt_of_lt_of_le hsa hb3.size
  have hza : (w3.alloc (.cells #[.string PB, .int .i64 (nB : Int), .int .i64 (wB : Int)] 158)).heap[w1.heap.size]? = some (.cells #[.string PA, .int .i64 (nA : Int), .int .i64 (wA : Int)] 158 (0, 0)) := (Below.heap_alloc w3 _ _ hs3).trans hz3
  have hzb : (w3.alloc (.cells #[.string PB, .int .i64 (nB : Int), .int .i64 (wB : Int)] 158)).heap[w3.heap.size]? = some (.cells #[.string PB, .int .i64 (nB : Int), .int .i64 (wB : Int)] 158 (0, 0)) := heap_alloc_new w3 _
  have hba : Below w3.heap.size w3 (w3.alloc (.cells #[.string PB, .int .i64 (nB : Int), .int .i64 (wB : Int)] 158)) := (Below.refl _ w3).alloc (Nat.le_refl _) _
  have HB4 := hid (HB3.out.trans (hba.mono HB3.out.size))
  have HE4 := hid (HE3.below hba)
  clear hz3 hb3 HE3 hba HB1 HB3 HEa HNB HZ1
  obtain ⟨oa, hoa⟩ : ∃ o, hasL (lst a) = o := ⟨_, rfl⟩
  obtain ⟨ob, hob⟩ : ∃ o, hasL (lst b) = o := ⟨_, rfl⟩
  rw [hoa, hob] at hdef
  rw [hoa, hob]
  clear hoa hob
  have a1 : (w3.alloc (.cells #[.string PB, .int .i64 (nB : Int), .int .i64 (wB : Int)] 158)).cell? ⟨w1.heap.size, 1, none⟩ = some (.int .i64 (nA : Int)) := by rw [Lib.cell_of_heap hza]; rfl
  have b1 : (w3.alloc (.cells #[.string PB, .int .i64 (nB : Int), .int .i64 (wB : Int)] 158)).cell? ⟨w3.heap.size, 1, none⟩ = some (.int .i64 (nB : Int)) := by rw [Lib.cell_of_heap hzb]; rfl
  have a0 : (w3.alloc (.cells #[.string PB, .int .i64 (nB : Int), .int .i64 (wB : Int)] 158)).cell? ⟨w1.heap.size, 0, none⟩ = some (.string PA) := by rw [Lib.cell_of_heap hza]; rfl
  have a2 : (w3.alloc (.cells #[.string PB, .int .i64 (nB : Int), .int .i64 (wB : Int)] 158)).cell? ⟨w1.heap.size, 2, none⟩ = some (.int .i64 (wA : Int)) := by rw [Lib.cell_of_heap hza]; rfl
  clear hza hzb
  cases oa with
  | false =>
    have hR0 : Hid (R = 0) := hid (by rw [hdef.out, if_neg (by simp)])
    have eN : IntKind.i64.wrap ((nB : Int) - (nA : Int)) = (nB : Int) - (nA : Int) := IntWalk.i64_in _ (by omega)
    go_wp2
    go_ret
    rw [hR0.out]
    exact ⟨rfl, HB4.out⟩
  | true =>
    cases ob with
    | false =>
      have hR0 : Hid (R = 0) := hid (by rw [hdef.out, if_neg (by simp)])
      have eN : IntKind.i64.wrap ((nB : Int) - (nA : Int)) = (nB : Int) - (nA : Int) := IntWalk.i64_in _ (by omega)
      go_wp2
      go_ret
      rw [hR0.out]
      exact ⟨rfl, HB4.out⟩
    | true =>
      by_cases hle : nA ≤ nB
      · obtain ⟨d, hd⟩ : ∃ d, nB = nA + d := ⟨nB - nA, by omega⟩
        have eN : IntKind.i64.wrap ((nB : Int) - (nA : Int)) = (d : Int) := by rw [IntWalk.i64_in _ (by omega)]; omega
        have eN2 : (nB : Int) - (nA : Int) = (d : Int) := by omega
        have hdn : nA + d ≤ 1000000000000000000 := by omega
        have hd0 : ¬ (d : Int) < 0 := by omega
        have hd1 : decide ((d : Int) < 0) = false := decide_eq_false hd0
        have eD : IntKind.i64.wrap ((d : Int) + 1) = (d : Int) + 1 := IntWalk.i64_in _ (by omega)
        have HD := hid hd
        clear hle hd
        go_wp2_with fail
        refine (after_any PA nA wA d hPAs hdn hwA16 _ HE4.out).mono ?_
        rintro e w5 ⟨⟨X, rfl, hX⟩, hb5⟩
        have HX := hid hX
        have HB5 := hid (HB4.out.trans (hb5.mono HB4.out.size))
        rcases @str_eq X b with ⟨h1, h2, h3⟩ | ⟨h1, h2, h3⟩
        · have hR1 : Hid (R = d + 1) := hid (by rw [hdef.out, if_pos ⟨by trivial, by trivial, by have := HD.out; omega, by rw [HD.out, ← HX.out]; exact h1⟩]; have := HD.out; omega)
          clear h1 hX hb5 hdef
          go_wp2
          go_ret
          rw [hR1.out]
          exact ⟨by go_num, HB5.out⟩
        · have hR0 : Hid (R = 0) := hid (by rw [hdef.out, if_neg (fun h => h1 (by rw [HX.out, ← HD.out]; exact h.2.2.2))])
          clear h1 hX hb5 hdef
          go_wp2
          go_ret
          rw [hR0.out]
          exact ⟨rfl, HB5.out⟩
      · have hR0 : Hid (R = 0) := hid (by rw [hdef.out, if_neg (fun h => hle h.2.2.1)])
        have eN : IntKind.i64.wrap ((nB : Int) - (nA : Int)) = (nB : Int) - (nA : Int) := IntWalk.i64_in _ (by omega)
        have hz : (nB : Int) - (nA : Int) < 0 := by omega
        have hz' : decide ((nB : Int) - (nA : Int) < 0) = true := decide_eq_true hz
        have hz2 : (nB : Int) < (nA : Int) := by omega
        clear hle
        go_wp2
        go_ret
        rw [hR0.out]
        exact ⟨rfl, HB4.out⟩
def nthS (s : Str) (j : Nat) : Str := preS s ++ wrS (numL s + j) (lastS s).length
def expandL (s : Str) (n : Nat) : List Str := s :: (List.range (n - 1)).map (fun j => nthS s (j + 1))
theorem expandL_snoc (s : Str) (n : Nat) (h : 1 ≤ n) : expandL s (n + 1) = expandL s n ++ [nthS s n] := by
  obtain ⟨m, rfl⟩ : ∃ m, n = m + 1 := ⟨n - 1, by omega⟩
  unfold expandL
  rw [show m + 1 + 1 - 1 = m + 1 by omega, show m + 1 - 1 = m by omega, List.range_succ]
  simp
theorem expandL_len (s : Str) (n : Nat) (h : 1 ≤ n) : (expandL s n).length = n := by
  unfold expandL
  simp
  omega
theorem ba_lst (s : ByteArray) : (⟨(lst s).toArray⟩ : ByteArray) = s := by cases s; rfl
theorem strV_lst (s : ByteArray) : strV (lst s) = .string s := by unfold strV; rw [ba_lst]
set_option maxHeartbeats 1000000 in
theorem clone_any (s : ByteArray) (hs : s.size ≤ 281474976710656) (w : World) : Calls Tryz.prog 191 #[.string s] w fun e w' => e = .returned (.string s) ∧ Below w.heap.size w w' := by
  go_enter Tryz.func191, Tryz.ntmps191
  go_wp2_with fail
  refine (Tryz.stringslite_Clone s _ hs).mono ?_
  rintro e w' ⟨rfl, hb⟩
  go_wp2
  go_ret
  exact ⟨rfl, hb⟩
theorem fresh_row (w : World) (s : Str) : StrRow (w.alloc (.cells #[strV s] 9)) w.heap.size (.slice (some ⟨w.heap.size, 0, none⟩) 1 1) [s] := by
  refine ⟨rfl, .inr ⟨w.heap.size, 1, #[strV s], rfl, Nat.le_refl _, heap_alloc_new w _, Nat.le_refl _, by unfold maxLen; omega, rfl, rfl⟩⟩
theorem row_kind9 {w : World} {B e z n : Nat} {v : Value} {xs : List Value} (h : w.ownsRow B e z v n xs) (g : Nat) (hg : v.ownBlock = some g) : ∃ c, w.heap[g]? = some (.cells c e (0, 0)) := by
  rcases h.2 with ⟨rfl, _⟩ | ⟨k, cap, cur, rfl, _, hh, _⟩
  · simp [Value.ownBlock] at hg
  · simp only [Value.ownBlock, Option.some.injEq] at hg
    subst hg
    exact ⟨cur, hh⟩
theorem env_grown {w w' : World} {B : Nat} (h : Env w) (hb : Below B w w') (hB : 5 < B ∧ 2 < B) : Env w' := by
  obtain ⟨hB, hB2⟩ := hB
  obtain ⟨m, hm⟩ := h.m
  obtain ⟨ev, he, hk⟩ := h.ev
  exact ⟨⟨m, (hb.cell (p := ⟨1, 0, none⟩) (by show 1 < B; omega)).trans hm⟩, ⟨ev, (hb.cell (p := ⟨5, 0, none⟩) (by show 5 < B; omega)).trans he, hk⟩,
    var_below hb gTab (by omega) h.tab, Nat.le_trans h.size hb.size⟩
def RowOut (l : List Str) (w : World) (e : Ending) (w' : World) : Prop := (∃ v, e = .returned v ∧ StrRow w' w.heap.size v l) ∧ Below w.heap.size w w'
set_option maxHeartbeats 4000000 in
set_option maxRecDepth 100000 in
theorem expand_any (s : ByteArray) (n : Nat) (hs : s.size ≤ 16) (h1 : 1 ≤ n) (hn : n ≤ 64) (w : World) (hE : Env w) :
    Calls Tryz.prog 170 #[.string s, .int .i64 (n : Int)] w (RowOut (expandL (lst s) n) w) := by
  have h8 := hE.size
  have h82 := And.intro hE.size (var_lt gTab hE.tab)
  have hsm := numL_small (lst s) (len16 hs)
  have hll := last_len (lst s) (len16 hs)
  have cC := clone_any s (by omega) w
  have HE := hid hE
  have CC := hid cC
  obtain ⟨i9, hi9, hz9, hsi9, hby9⟩ := info_parts infoStr
  clear hE cC
  go_enter Tryz.func170, Tryz.ntmps170
  go_wp2_with fail
  refine CC.out.mono ?_
  rintro e w1 ⟨rfl, hb1⟩
  have hrow := fresh_row w1 (lst s)
  rw [strV_lst] at hrow
  have hba : Below w1.heap.size w1 (w1.alloc (.cells #[.string s] 9)) := (Below.refl _ w1).alloc (Nat.le_refl _) _
  have HB1 := hid (hb1.trans (hba.mono hb1.size))
  have HE1 := hid ((HE.out.below hb1).below hba)
  have HR1 := hid (StrRow.mono hrow hb1.size)
  clear hrow hba hb1 HE CC
  go_wp2_with fail
  generalize w1.alloc (.cells #[.string s] 9) = w2 at HB1 HE1 HR1 ⊢
  refine (divide_any s hs _ HE1.out).mono ?_
  rintro e w3 ⟨⟨P, rfl, hP⟩, hb3⟩
  unfold divV
  have hPs : P.size ≤ 16 := by rw [Lib.size_eq, show P.data.toList = _ from hP]; exact hll.2
  obtain ⟨nA, hnA⟩ : ∃ n, numL (lst s) = n := ⟨_, rfl⟩
  obtain ⟨wA, hwA⟩ : ∃ n, (lastS (lst s)).length = n := ⟨_, rfl⟩
  have hwA16 : wA ≤ 16 := by rw [← hwA]; exact hll.1
  rw [hnA] at hsm
  have hnth : Hid (∀ j, nthS (lst s) j = lst P ++ wrS (nA + j) wA) := hid (fun j => by unfold nthS; rw [hnA, hwA, hP])
  rw [hnA, hwA]
  have hR3 := row_under HR1.out hb3
  have hE3 := HE1.out.below hb3
  have hba : Below w3.heap.size w3 (w3.alloc (.cells #[.string P, .int .i64 (nA : Int), .int .i64 (wA : Int)] 158)) := (Below.refl _ w3).alloc (Nat.le_refl _) _
  have hz : (w3.alloc (.cells #[.string P, .int .i64 (nA : Int), .int .i64 (wA : Int)] 158)).heap[w3.heap.size]? = some (.cells #[.string P, .int .i64 (nA : Int), .int .i64 (wA : Int)] 158 (0, 0)) := heap_alloc_new w3 _
  have HR := hid (row_under hR3 hba)
  have HE := hid (hE3.below hba)
  have HB := hid ((HB1.out.trans (hb3.mono HB1.out.size)).trans (hba.mono (Nat.le_trans HB1.out.size hb3.size)))
  have HZ := hid hz
  have hws : w.heap.size ≤ w3.heap.size := Nat.le_trans HB1.out.size hb3.size
  have hsz : (w3.alloc (.cells #[.string P, .int .i64 (nA : Int), .int .i64 (wA : Int)] 158)).heap.size = w3.heap.size + 1 := by simp
  clear hnA hwA hP hll hb3 hR3 hE3 hba hz HB1 HE1 HR1
  go_wp2_with fail
  generalize w3.alloc (.cells #[.string P, .int .i64 (nA : Int), .int .i64 (wA : Int)] 158) = w4 at HR HE HB HZ hsz ⊢
  go_loopw [5, 8] (fun v iv wr => ∃ i : Nat, iv = .int .i64 (i : Int) ∧ 1 ≤ i ∧ i ≤ n ∧ StrRow wr w.heap.size v (expandL (lst s) i) ∧ Hid (wr.heap[w3.heap.size]? = some (.cells #[.string P, .int .i64 (nA : Int), .int .i64 (wA : Int)] 158 (0, 0))) ∧ Hid (Env wr) ∧ Hid (Below w.heap.size w wr)) (fun _ iv _ => n - (RowKit.intOf iv).toNat)
  case atStart => exact ⟨1, rfl, Nat.le_refl _, h1, HR.out, HZ, HE, HB⟩
  case round =>
    obtain ⟨i, rfl, hi1, hin, hrow, hZ, hEr, hBr⟩ := hrel
    by_cases hlt : i < n
    · have hltz : (i : Int) < (n : Int) := by omega
      have c0 : wr.cell? ⟨w3.heap.size, 0, none⟩ = some (.string P) := by rw [Lib.cell_of_heap hZ.out]; rfl
      have c1 : wr.cell? ⟨w3.heap.size, 1, none⟩ = some (.int .i64 (nA : Int)) := by rw [Lib.cell_of_heap hZ.out]; rfl
      have c2 : wr.cell? ⟨w3.heap.size, 2, none⟩ = some (.int .i64 (wA : Int)) := by rw [Lib.cell_of_heap hZ.out]; rfl
      have HRow := hid hrow
      have cA := hid (after_any P nA wA i hPs (by omega) hwA16 wr hEr.out)
      have hel := expandL_len (lst s) i hi1
      have HEL := hid hel
      clear hrow hel
      go_wp2_with fail
      refine cA.out.mono ?_
      rintro e w5 ⟨⟨X, rfl, hX⟩, hb5⟩
      have hlt3 : w3.heap.size < wr.heap.size := (Array.getElem?_eq_some_iff.1 hZ.out).1
      have hrow5 : StrRow w5 w.heap.size _ (expandL (lst s) i) := row_under HRow.out hb5
      have HRow5 := hid hrow5
      have HZ5 := hid ((hb5.block _ hlt3).trans hZ.out)
      have HE5 := hid (hEr.out.below hb5)
      have HB5 := hid (hBr.out.trans (hb5.mono hBr.out.size))
      have hnew : Hid (lst X = nthS (lst s) i) := hid (by rw [hnth.out]; exact hX)
      have HC3 : Hid ((expandL (lst s) i).length + 1 ≤ maxLen) := by unfold maxLen; exact hid (by have := HEL.out; omega)
      have HC4 : Hid (((expandL (lst s) i).length + 1) * 16 ≤ 140737488355328) := hid (by have := HEL.out; omega)
      have HC5 : Hid (∀ o : Obj, w.heap.size ≤ (w5.alloc o).heap.size) := hid (fun o => by have := HB5.out.size; simp; omega)
      clear hX hb5 hrow5 hlt3 c0 c1 c2 cA HRow
      go_wp2_with (at_builtin; refine wpList_append_own _ rfl _ _ 40 rfl w.heap.size 9 i9 (.string ⟨#[]⟩) 1 16 Tryz.underlying40 hi9 hz9 hsi9 hby9 rfl (by decide) _ (expandL (lst s) i).length (strVals (expandL (lst s) i)) rfl (World.ownsRow.alloc HRow5.out _) ⟨w5.heap.size, 0, none⟩ 1 1 [.string X] rfl rfl (one_new _ _ _) (one_str _) HC3.out HC4.out (HC5.out _) ?_)
      intro v' w6 hown' hgrow _
      have hg' := grownBy_of_alloc hgrow
      have hb56 : Below w.heap.size w5 w6 := (Below.refl _ w5).grown hg' HB5.out.size (fun k hk => (World.ownsRow.lt HRow5.out k hk).1)
      have hZ6 : w6.heap[w3.heap.size]? = some (.cells #[.string P, .int .i64 (nA : Int), .int .i64 (wA : Int)] 158 (0, 0)) := by
        refine (hg'.block _ (Array.getElem?_eq_some_iff.1 HZ5.out).1 ?_).trans HZ5.out
        intro e
        obtain ⟨cc, hcc⟩ := row_kind9 HRow5.out _ e.symm
        rw [HZ5.out] at hcc
        injection hcc with hcc
        injection hcc with _ h2 _
        cases h2
      have HE6 := hid (env_grown HE5.out hb56 h82)
      go_wp2
      go_roundw
      case rel =>
        refine ⟨i + 1, by go_num, by omega, by omega, ?_, hid hZ6, HE6, hid (HB5.out.trans hb56)⟩
        rw [expandL_snoc _ _ hi1, ← hnew.out]
        unfold StrRow
        rw [strVals_app, List.length_append]
        have h9 := hown'
        rw [← strV_lst] at h9
        exact h9
      case measure => simp [RowKit.intOf]; omega
    · have hltz : ¬ (i : Int) < (n : Int) := by omega
      obtain rfl : n = i := by omega
      obtain ⟨Ar, cr, rfl⟩ := row_slice hrow
      have HRow := hid hrow
      clear hrow
      go_wp2
      go_ret
      exact ⟨⟨_, rfl, HRow.out⟩, hBr.out⟩
def checkGo : List Str → List Str → Int
  | _, [] => 0
  | seen, c :: r => if validC c = false then 10 else if c ∈ seen then 11 else checkGo (seen ++ [c]) r
def checkM (l : List Str) : Int := if 64 < l.length then 2 else checkGo [] l
theorem checkGo_step (l : List Str) (i : Nat) (h : i < l.length) : checkGo (l.take i) (l.drop i) = if validC l[i] = false then 10 else if l[i] ∈ l.take i then 11 else checkGo (l.take (i + 1)) (l.drop (i + 1)) := by
  rw [List.drop_eq_getElem_cons h, checkGo, List.take_succ_eq_append_getElem h]
def ba (s : Str) : ByteArray := ⟨s.toArray⟩
theorem ba_inj {a b : Str} (h : ba a = ba b) : a = b := by
  have := congrArg lst h
  exact this
theorem contains_ba (l : List Str) (i : Nat) (s : Str) : Lib.containsS ((l.map ba).take i) (ba s) = decide (s ∈ l.take i) := by
  rw [Bool.eq_iff_iff, Lib.containsS_iff, decide_eq_true_eq, ← List.map_take]
  constructor
  · intro h
    obtain ⟨x, hx, e⟩ := List.mem_map.1 h
    rw [← ba_inj e]
    exact hx
  · exact fun h => List.mem_map_of_mem h
set_option maxHeartbeats 4000000 in
set_option maxRecDepth 100000 in
theorem check_any (A : Option Addr) (l : List Str) (c : Nat) (Pp : Nat → Prop) (w : World) (h : StrsIn w Pp A l) (hlc : l.length ≤ c) (hc : c ≤ 9223372036854775807) :
    Calls Tryz.prog 100 #[.slice A l.length c] w fun e w' => e = .returned (.int .i64 (checkM l)) ∧ w = w' := by
  obtain ⟨R, hR⟩ : ∃ R, checkM l = R := ⟨_, rfl⟩
  rw [hR]
  by_cases h64 : 64 < l.length
  · have hz : (64 : Int) < (l.length : Int) := by omega
    have hr : Hid (R = 2) := hid (by rw [← hR]; exact if_pos h64)
    clear hR h
    go_enter Tryz.func100, Tryz.ntmps100
    go_wp2
    go_ret
    rw [hr.out]
    exact ⟨rfl, rfl⟩
  · have hz : ¬ (64 : Int) < (l.length : Int) := by omega
    have hr : Hid (R = checkGo (l.take 0) (l.drop 0)) := hid (by rw [← hR]; exact if_neg h64)
    have H := hid h
    clear hR h
    go_enter Tryz.func100, Tryz.ntmps100
    go_wp2
    go_loop [3, 4, 10] (fun _ _ iv => ∃ i : Nat, iv = .int .i64 (i : Int) ∧ i ≤ l.length ∧ Hid (R = checkGo (l.take i) (l.drop i))) (fun _ _ iv => l.length - (RowKit.intOf iv).toNat)
    case atStart => exact ⟨0, rfl, Nat.zero_le _, hr⟩
    case round =>
      obtain ⟨i, rfl, hi, hE⟩ := hrel
      by_cases hlt : i < l.length
      · have hltz : (i : Int) < (l.length : Int) := by omega
        have hst := hid (checkGo_step l i hlt)
        obtain ⟨b, off, rfl, _, hc0⟩ := H.out.at_ hlt
        have hcell : ∀ j, j < (l.map ba).length → w.cell? ⟨b, off + j, none⟩ = some (.string ((l.map ba).getD j ByteArray.empty)) := fun j hj => by
          have hj' : j < l.length := by simpa using hj
          obtain ⟨b', off', e, _, hc'⟩ := H.out.at_ hj'
          injection e with e
          injection e with e1 e2 _
          subst e1 e2
          rw [hc']
          simp [List.getD, List.getElem?_eq_getElem hj', strV, ba]
        have hc1 : w.cell? ⟨b, off + i, none⟩ = some (.string (ba l[i])) := hc0
        have cV := valid_any (ba l[i])
        have cC := Tryz.slices_Contains_string b off i c (l.map ba) (ba l[i]) w (by simp; omega) (by omega) hcell
        rw [contains_ba] at cC
        obtain ⟨x, hx⟩ : ∃ x, l[i] = x := ⟨_, rfl⟩
        rw [hx] at hc1 cV cC hst
        rw [show (ba x).data.toList = x from rfl] at cV
        obtain ⟨X, hX⟩ : ∃ X, ba x = X := ⟨_, rfl⟩
        rw [hX] at hc1 cV cC
        clear hcell hc0 hx hX
        have hizc : (i : Int) ≤ (c : Int) := by omega
        have hi0 : (0 : Int) ≤ (i : Int) := by omega
        cases hv : validC x with
        | false =>
          rw [hv] at cV
          have hn : Hid (R = 10) := hid (by rw [hE.out, hst.out, if_pos hv])
          clear hv cC hst
          go_wp2_with fail
          refine (cV _).mono ?_
          rintro e w' ⟨rfl, rfl⟩
          go_wp2
          go_ret
          rw [hn.out]
          exact ⟨rfl, rfl⟩
        | true =>
          rw [hv] at cV
          by_cases hm : x ∈ l.take i
          · rw [decide_eq_true hm] at cC
            have hn : Hid (R = 11) := hid (by rw [hE.out, hst.out, if_neg (by rw [hv]; simp), if_pos hm])
            clear hv hm hst
            go_wp2_with fail
            refine (cV _).mono ?_
            rintro e w' ⟨rfl, rfl⟩
            go_wp2_with fail
            refine cC.mono ?_
            rintro e w' ⟨rfl, rfl⟩
            go_wp2
            go_ret
            rw [hn.out]
            exact ⟨rfl, rfl⟩
          · rw [decide_eq_false hm] at cC
            have hn : Hid (R = checkGo (l.take (i + 1)) (l.drop (i + 1))) := hid (by rw [hE.out, hst.out, if_neg (by rw [hv]; simp), if_neg hm])
            clear hv hm hst
            go_wp2_with fail
            refine (cV _).mono ?_
            rintro e w' ⟨rfl, rfl⟩
            go_wp2_with fail
            refine cC.mono ?_
            rintro e w' ⟨rfl, rfl⟩
            go_wp2
            go_round
            case rel => exact ⟨i + 1, by go_num, by omega, hn⟩
            case measure => simp [RowKit.intOf]; omega
      · have hltz : ¬ (i : Int) < (l.length : Int) := by omega
        have hn : Hid (R = 0) := hid (by rw [hE.out, List.drop_of_length_le (by omega)]; rfl)
        go_wp2
        go_ret
        rw [hn.out]
        exact ⟨rfl, rfl⟩
def dots2 : Str := [46, 46]
def befP (p : Str) : Str := (Lib.cut p dots2).1
def aftP (p : Str) : Str := (Lib.cut p dots2).2.1
def isP (p : Str) : Bool := (Lib.cut p dots2).2.2
def nP (p : Str) : Nat := if isP p = true then rangeN (befP p) (aftP p) else 1
def partM (p : Str) (most : Int) : List Str × Int :=
  if p = [] ∨ Lib.contains (aftP p) dots2 = true then ([], 4)
  else if validC (befP p) = false ∨ (isP p = true ∧ validC (aftP p) = false) then ([], 10)
  else if nP p = 0 then ([], 3) else if most < (nP p : Int) then ([], 2) else (expandL (befP p) (nP p), 0)
theorem validC_len {l : Str} (h : validC l = true) : l.length ≤ 16 := by
  unfold validC at h
  split at h
  · simp at h
  · simp only [Bool.and_eq_true, decide_eq_true_eq] at h
    exact h.1.1
def PartOut (r : List Str × Int) (w : World) (e : Ending) (w' : World) : Prop := (∃ v, e = .returned (.tuple #[v, .int .i64 r.2]) ∧ StrRow w' w.heap.size v r.1) ∧ Below w.heap.size w w'
theorem PartOut.err {w w' : World} {n : Int} (hb : Below w.heap.size w w') : PartOut ([], n) w (.returned (.tuple #[.slice none 0 0, .int .i64 n])) w' := ⟨⟨_, rfl, World.ownsRow_nil _ _ _ _⟩, hb⟩
theorem cut_len (p : Str) : (befP p).length ≤ p.length ∧ (aftP p).length ≤ p.length := by
  unfold befP aftP Lib.cut
  split <;> simp
  all_goals omega
set_option maxHeartbeats 4000000 in
set_option maxRecDepth 100000 in
theorem readPart_any (p : ByteArray) (most : Int) (hp : p.size < 4294967281) (hm : most ≤ 64) (w : World) (hE : Env w) :
    Calls Tryz.prog 147 #[.string p, .int .i64 most] w (PartOut (partM (lst p) most) w) := by
  obtain ⟨R, hR⟩ : ∃ R, partM (lst p) most = R := ⟨_, rfl⟩
  rw [hR]
  obtain ⟨m, hmx⟩ := hE.m
  have hcl := cut_len (lst p)
  rw [show (lst p).length = p.size from (Lib.size_eq p).symm] at hcl
  have cU := Tryz.strings_Cut p ⟨#[46, 46]⟩ m w hp hmx
  obtain ⟨F, hF⟩ : ∃ F : ByteArray, ba (befP (lst p)) = F := ⟨_, rfl⟩
  obtain ⟨G, hG⟩ : ∃ G : ByteArray, ba (aftP (lst p)) = G := ⟨_, rfl⟩
  obtain ⟨d, hd⟩ : ∃ d, isP (lst p) = d := ⟨_, rfl⟩
  rw [show (⟨(Lib.cut p.data.toList (⟨#[46, 46]⟩ : ByteArray).data.toList).1.toArray⟩ : ByteArray) = F from hF, show (⟨(Lib.cut p.data.toList (⟨#[46, 46]⟩ : ByteArray).data.toList).2.1.toArray⟩ : ByteArray) = G from hG,
    show (Lib.cut p.data.toList (⟨#[46, 46]⟩ : ByteArray).data.toList).2.2 = d from hd] at cU
  have lF : befP (lst p) = lst F := by rw [← hF]; rfl
  have lG : aftP (lst p) = lst G := by rw [← hG]; rfl
  have hGs : G.size < 4294967281 := by rw [show G.size = (lst G).length from Lib.size_eq G, ← lG]; omega
  have hdef : R = if (lst p) = [] ∨ Lib.contains (lst G) dots2 = true then ([], 4) else if validC (lst F) = false ∨ (d = true ∧ validC (lst G) = false) then ([], 10)
      else if (if d = true then rangeN (lst F) (lst G) else 1) = 0 then ([], 3) else if most < ((if d = true then rangeN (lst F) (lst G) else 1 : Nat) : Int) then ([], 2) else (expandL (lst F) (if d = true then rangeN (lst F) (lst G) else 1), 0) := by
    rw [← hR]
    unfold partM nP
    rw [lF, lG, hd]
  have HDEF := hid hdef
  have HE := hid hE
  have CU := hid cU
  have HM := hid hmx
  have cV := valid_any F
  have cW := valid_any G
  clear hR hF hG hd lF lG hdef cU hcl hmx hE
  by_cases h0 : 0 < p.size
  · obtain ⟨x1, x2, x3, x4⟩ := str_no h0
    have hne := hid (lst_ne h0)
    have cK := fun w hm => Tryz.strings_Contains G ⟨#[46, 46]⟩ m w hGs hm
    rw [show Lib.contains G.data.toList (⟨#[46, 46]⟩ : ByteArray).data.toList = Lib.contains (lst G) dots2 from rfl] at cK
    go_enter Tryz.func147, Tryz.ntmps147
    go_wp2_with fail
    refine CU.out.mono ?_
    rintro e w1 ⟨rfl, q, hw1⟩
    have hb1 : Below w.heap.size w w1 := by rw [hw1]; exact below_drewN (Below.refl _ _) q
    have hm1 : w1.cell? ⟨1, 0, none⟩ = some (.int .i64 m) := by rw [hw1]; exact HM.out
    have HE1 := hid (HE.out.below hb1)
    have HB1 := hid hb1
    have CK := hid (cK w1 hm1)
    clear hw1 hm1 hb1 cK CU HE HM
    cases hk : Lib.contains (lst G) dots2 with
    | true =>
      rw [hk] at CK
      have hr : Hid (R = ([], 4)) := hid (by rw [HDEF.out, if_pos (.inr hk)])
      clear hk
      go_wp2_with fail
      refine CK.out.mono ?_
      rintro e w2 ⟨rfl, rfl⟩
      go_wp2
      go_ret2
      rw [hr.out]
      exact PartOut.err HB1.out
    | false =>
      rw [hk] at CK
      have HD2 : Hid (R = if validC (lst F) = false ∨ (d = true ∧ validC (lst G) = false) then ([], 10)
        else if (if d = true then rangeN (lst F) (lst G) else 1) = 0 then ([], 3) else if most < ((if d = true then rangeN (lst F) (lst G) else 1 : Nat) : Int) then ([], 2) else (expandL (lst F) (if d = true then rangeN (lst F) (lst G) else 1), 0)) := hid (by
          rw [HDEF.out, if_neg]
          rintro (h | h)
          · exact hne.out h
          · rw [hk] at h; simp at h)
      clear hk HDEF
      cases hv : validC (lst F) with
      | false =>
        rw [hv] at cV
        have hr : Hid (R = ([], 10)) := hid (by rw [HD2.out, if_pos (.inl hv)])
        clear hv
        go_wp2_with fail
        refine CK.out.mono ?_
        rintro e w2 ⟨rfl, rfl⟩
        go_wp2_with fail
        refine (cV _).mono ?_
        rintro e w2 ⟨rfl, rfl⟩
        go_wp2
        go_ret2
        rw [hr.out]
        exact PartOut.err HB1.out
      | true =>
        rw [hv] at cV
        have hFs : F.size ≤ 16 := by rw [show F.size = (lst F).length from Lib.size_eq F]; exact validC_len hv
        have HV := hid hv
        clear hv
        cases d with
        | false =>
          have HD3 : Hid (R = if most < 1 then ([], 2) else (expandL (lst F) 1, 0)) := hid (by
            rw [HD2.out, if_neg (by rw [HV.out]; simp)]
            simp)
          clear HD2
          have cX := hid (fun w h => expand_any F 1 hFs (by omega) (by omega) w h)
          by_cases hmo : most < 1
          · have hz : decide (most < 1) = true := decide_eq_true hmo
            have hr : Hid (R = ([], 2)) := hid (by rw [HD3.out, if_pos hmo])
            go_wp2_with fail
            refine CK.out.mono ?_
            rintro e w2 ⟨rfl, rfl⟩
            go_wp2_with fail
            refine (cV _).mono ?_
            rintro e w2 ⟨rfl, rfl⟩
            go_wp2
            go_ret2
            rw [hr.out]
            exact PartOut.err HB1.out
          · have hz : decide (most < 1) = false := decide_eq_false hmo
            have hr : Hid (R = (expandL (lst F) 1, 0)) := hid (by rw [HD3.out, if_neg hmo])
            go_wp2_with fail
            refine CK.out.mono ?_
            rintro e w2 ⟨rfl, rfl⟩
            go_wp2_with fail
            refine (cV _).mono ?_
            rintro e w2 ⟨rfl, rfl⟩
            go_wp2_with fail
            refine (cX.out _ HE1.out).mono ?_
            rintro e w3 ⟨⟨v, rfl, hrow⟩, hb3⟩
            have HRow := hid (StrRow.mono hrow HB1.out.size)
            have HB3 := hid (HB1.out.trans (hb3.mono HB1.out.size))
            clear hrow hb3
            go_wp2
            go_ret2
            rw [hr.out]
            exact ⟨⟨_, rfl, HRow.out⟩, HB3.out⟩
        | true =>
          cases hvG : validC (lst G) with
          | false =>
            rw [hvG] at cW
            have hr : Hid (R = ([], 10)) := hid (by rw [HD2.out, if_pos (.inr ⟨by trivial, hvG⟩)])
            clear hvG
            go_wp2_with fail
            refine CK.out.mono ?_
            rintro e w2 ⟨rfl, rfl⟩
            go_wp2_with fail
            refine (cV _).mono ?_
            rintro e w2 ⟨rfl, rfl⟩
            go_wp2_with fail
            refine (cW _).mono ?_
            rintro e w2 ⟨rfl, rfl⟩
            go_wp2
            go_ret2
            rw [hr.out]
            exact PartOut.err HB1.out
          | true =>
            rw [hvG] at cW
            have hGs16 : G.size ≤ 16 := by rw [show G.size = (lst G).length from Lib.size_eq G]; exact validC_len hvG
            have cL := rangeLength_any F G hFs hGs16 w1 HE1.out
            obtain ⟨n, hn⟩ : ∃ n, rangeN (lst F) (lst G) = n := ⟨_, rfl⟩
            rw [hn] at cL
            have HD3 : Hid (R = if n = 0 then ([], 3) else if most < (n : Int) then ([], 2) else (expandL (lst F) n, 0)) := hid (by
              rw [HD2.out, if_neg (by rw [HV.out, hvG]; simp)]
              simp only [if_true, hn])
            have CL := hid cL
            clear HD2 hvG hn cL
            go_wp2_with fail
            refine CK.out.mono ?_
            rintro e w2 ⟨rfl, rfl⟩
            go_wp2_with fail
            refine (cV _).mono ?_
            rintro e w2 ⟨rfl, rfl⟩
            go_wp2_with fail
            refine (cW _).mono ?_
            rintro e w2 ⟨rfl, rfl⟩
            go_wp2_with fail
            refine CL.out.mono ?_
            rintro e w2 ⟨rfl, hb2⟩
            have HB2 := hid (HB1.out.trans (hb2.mono HB1.out.size))
            have HE2 := hid (HE1.out.below hb2)
            clear hb2 CL CK cV cW HE1 HB1
            by_cases hn0 : n = 0
            · have hz : ((n : Int) == 0) = true := by simp [hn0]
              have hr : Hid (R = ([], 3)) := hid (by rw [HD3.out, if_pos hn0])
              clear hn0
              go_wp2
              go_ret2
              rw [hr.out]
              exact PartOut.err HB2.out
            · have hz : ((n : Int) == 0) = false := by simpa using hn0
              by_cases hmo : most < (n : Int)
              · have hz2 : decide (most < (n : Int)) = true := decide_eq_true hmo
                have hr : Hid (R = ([], 2)) := hid (by rw [HD3.out, if_neg hn0, if_pos hmo])
                clear hn0
                go_wp2
                go_ret2
                rw [hr.out]
                exact PartOut.err HB2.out
              · have hz2 : decide (most < (n : Int)) = false := decide_eq_false hmo
                have hr : Hid (R = (expandL (lst F) n, 0)) := hid (by rw [HD3.out, if_neg hn0, if_neg hmo])
                have cX := hid (expand_any F n hFs (by omega) (by omega) w2 HE2.out)
                clear hn0
                go_wp2_with fail
                refine cX.out.mono ?_
                rintro e w3 ⟨⟨v, rfl, hrow⟩, hb3⟩
                have HRow := hid (StrRow.mono hrow HB2.out.size)
                have HB3 := hid (HB2.out.trans (hb3.mono HB2.out.size))
                clear hrow hb3
                go_wp2
                go_ret2
                rw [hr.out]
                exact ⟨⟨_, rfl, HRow.out⟩, HB3.out⟩
  · obtain ⟨x1, x2, x3, x4⟩ := str_yes h0
    have hr : Hid (R = ([], 4)) := hid (by rw [HDEF.out, if_pos (.inl (lst_nil h0))])
    go_enter Tryz.func147, Tryz.ntmps147
    go_wp2_with fail
    refine CU.out.mono ?_
    rintro e w1 ⟨rfl, q, hw1⟩
    have hb1 : Below w.heap.size w w1 := by rw [hw1]; exact below_drewN (Below.refl _ _) q
    have HB1 := hid hb1
    clear hw1 hb1
    go_wp2
    go_ret2
    rw [hr.out]
    exact PartOut.err HB1.out
def Rounds {σ : Type} (n : Nat) (P : Program) (l : Nat) (Ok : σ → ByteArray → Prop) (nx : σ → ByteArray → σ) (J : σ → World → Prop) (Jx : World → Prop) : Prop :=
  ∀ s x W, J s W → Ok s x → YieldAt Fence.wide (n - 1) P l #[.string x] W fun e W' => (e = .returned (.bool true) ∧ J (nx s x) W') ∨ (e = .returned (.bool false) ∧ Jx W')
def IterAt {σ : Type} (n : Nat) (P : Program) (gf : Nat) (lb : Array Value) (B : Nat) (Ok : σ → ByteArray → Prop) (nx : σ → ByteArray → σ) (Fin : σ → Prop) (I : σ → World → Prop) (s0 : σ) : Prop :=
  ∀ (l : Nat) (J : σ → World → Prop) (Jx : World → Prop) (W : World), (∀ s W, J s W → I s W) →
    (∀ s s' W v, J s W → I s' (W.setCell ⟨B, 0, none⟩ v) → J s' (W.setCell ⟨B, 0, none⟩ v)) →
    Rounds n P l Ok nx J Jx → J s0 W →
    CallsIn Fence.wide n P gf (#[.func (.yield l) #[] #[]] ++ lb) W fun e W' => (∃ v, e = .returned v) ∧ ((∃ s, Fin s ∧ J s W') ∨ Jx W')
def bodyOut (B : Nat) (I' Ix : World → Prop) (W : World) : Exit → Act → World → Prop
  | .normal, _, W' => KeepsFrom B W W' ∧ I' W'
  | .ret, _, W' => KeepsFrom B W W' ∧ Ix W'
  | _, _, _ => False
set_option maxHeartbeats 1000000 in
theorem range_own {P : Program} {σ : Type} {g : Operand} {ps : Array Tmp} {assign body : Code} {Q : Exit → Act → World → Prop} {a : Act} {w : World} {n : Nat} (h1 : 1 ≤ n)
    {gf : Nat} {lb : Array Value} (hg : a.eval g = .func (.func gf) #[] lb) (eg : ∀ args w, (callFunc gf args).run P w = .ok (.enter gf args) w)
    (B : Nat) (hB : B < w.heap.size) (Ok : σ → ByteArray → Prop) (nx : σ → ByteArray → σ) (Fin : σ → Prop) (I : σ → World → Prop) (Ix : World → Prop) (s0 : σ)
    (hit : IterAt (n - 1) P gf lb B Ok nx Fin I s0) (hps : ps.size = 1)
    (hI : OwnFrom w.heap.size I) (hIx : OwnFrom w.heap.size (fun (_ : Unit) W => Ix W)) (h0 : I s0 w) (a₁ : ByteArray → Act)
    (hassign : ∀ (l : Nat) (x : ByteArray) (W : World) (K : Act → World → Prop), K (a₁ x) W →
      assign.wpIn (Fence.wide.inRound l) (n - 1 - 1) P (Exit.then K (fun _ _ _ => False)) { tmps := (ps.zip #[.string x]).foldl (fun t (p, v) => t.setIfInBounds p v) a.tmps, defers := [] } W)
    (hbody : ∀ (l : Nat) (s : σ) (x : ByteArray) (W : World), I s W → Ok s x → body.wpIn (Fence.wide.inRound l) (n - 1 - 1) P (bodyOut w.heap.size (I (nx s x)) Ix W) (a₁ x) W)
    (hdone : ∀ (D : Nat) (s : σ) (W : World), w.heap.size ≤ D → Fin s → I s W → W.heap[D]? = some (.deferred (some [])) → Q .normal { a with defers := { target := .collected D, args := #[] } :: a.defers } W)
    (hstop : ∀ (D : Nat) (W : World), w.heap.size ≤ D → Ix W → W.heap[D]? = some (.deferred (some [])) → Code.ret.wpIn Fence.wide n P Q { a with defers := { target := .collected D, args := #[] } :: a.defers } W) :
    (Code.rangeFunc g ps assign body).wpIn Fence.wide n P Q a w := by
  refine wpIn_rangeFunc fun fn hfn => ?_
  let L := w.heap.size + 1
  let rec_ : LoopState → Option Code → Loop := fun st pe => { state := st, pending := pe, fn, tmps := a.tmps, params := ps, assign, body, defers := w.heap.size }
  obtain ⟨rec, hrec⟩ : ∃ rec : LoopState → Option Code → Loop, rec = rec_ := ⟨_, rfl⟩
  obtain ⟨W1, hW1⟩ : ∃ W1, (w.alloc (.deferred (some []))).alloc (.loop (rec .ready none)) = W1 := ⟨_, rfl⟩
  have hL1 : W1.heap[w.heap.size + 1]? = some (.loop (rec .ready none)) := by
    rw [← hW1]; have := World.alloc_heap_new (w.alloc (.deferred (some []))) (.loop (rec .ready none)); rwa [World.size_alloc] at this
  have hD1 : W1.heap[w.heap.size]? = some (.deferred (some [])) := by
    rw [← hW1]; exact (Below.heap_alloc _ _ _ (by simp)).trans (World.alloc_heap_new w _)
  have hI1 : I s0 W1 := by rw [← hW1]; exact hI.alloc _ (hI.alloc _ h0)
  refine ⟨w.heap.size + 1, [{ target := .collected w.heap.size, args := #[] }], W1, { target := .fn (.func gf) lb, args := #[.func (.yield (w.heap.size + 1)) #[] #[]] }, W1, gf,
    #[.func (.yield (w.heap.size + 1)) #[] #[]] ++ lb, W1, ?_, ?_, ?_, ?_, fun _ => h1, ?_⟩
  · rw [← hW1, hrec]; exact run_enterLoop_outer _ _ _ _ _
  · simp only [resolve, hg]
    simp [go_sem]
  · intro _ _; trivial
  · simp [invoke, go_sem, eg]
  · refine (hit (w.heap.size + 1)
      (fun s W => I s W ∧ W.heap[w.heap.size + 1]? = some (.loop (rec .ready none)) ∧ W.heap[w.heap.size]? = some (.deferred (some [])))
      (fun W => Ix W ∧ W.heap[w.heap.size + 1]? = some (.loop (rec .done (some .ret))) ∧ W.heap[w.heap.size]? = some (.deferred (some [])))
      W1 (fun _ _ h => h.1)
      (fun s s' W v h h' => ⟨h', (Below.heap_setCell _ _ _ _ (by show w.heap.size + 1 ≠ B; omega)).trans h.2.1, (Below.heap_setCell _ _ _ _ (by show w.heap.size ≠ B; omega)).trans h.2.2⟩)
      ?_ ⟨hI1, hL1, hD1⟩).mono ?_
    · rintro s x W ⟨hi, hl, hk⟩ hok
      have hlt : w.heap.size + 1 < W.heap.size := (Array.getElem?_eq_some_iff.1 hl).1
      have hy := run_yield (P := P) (args := #[.string x]) hl (by rw [hrec]; exact hps.symm)
      rw [hrec] at hy
      refine ⟨fn, _, assign, body, hy, roundIn_of_wpIn trivial (hassign _ x W _ ⟨_, run_beginRound hl (by rw [hrec]), ?_⟩)⟩
      have hl2 : (W.putObj (w.heap.size + 1) (.loop { rec .ready none with state := .busy })).heap[w.heap.size + 1]? = some (.loop { rec .ready none with state := .busy }) := World.putObj_heap_same hlt
      have hk2 : (W.putObj (w.heap.size + 1) (.loop { rec .ready none with state := .busy })).heap[w.heap.size]? = some (.deferred (some [])) := (World.putObj_heap_other (by omega)).trans hk
      refine wpIn_mono (hbody _ s x _ (hI.putObj _ hi (by omega) hl rfl) hok) ?_
      rintro e a3 W3 hp
      cases e with
      | normal =>
        obtain ⟨hk3, hi3⟩ := hp
        have hl3 := hk3.same _ _ (by omega) hl2 rfl
        have hr := run_endRound (P := P) none hl3
        exact ⟨_, _, hr, .inl ⟨rfl, hI.putObj _ hi3 (by omega) hl3 rfl, by rw [World.putObj_heap_same (Array.getElem?_eq_some_iff.1 hl3).1, hrec]; rfl,
          (World.putObj_heap_other (by omega)).trans (hk3.same _ _ (Nat.le_refl _) hk2 rfl)⟩⟩
      | ret =>
        obtain ⟨hk3, hi3⟩ := hp
        have hl3 := hk3.same _ _ (by omega) hl2 rfl
        have hr := run_endRound (P := P) (some .ret) hl3
        exact ⟨_, _, hr, .inr ⟨rfl, hIx.putObj (s := ()) _ hi3 (by omega) hl3 rfl, by rw [World.putObj_heap_same (Array.getElem?_eq_some_iff.1 hl3).1, hrec]; rfl,
          (World.putObj_heap_other (by omega)).trans (hk3.same _ _ (Nat.le_refl _) hk2 rfl)⟩⟩
      | exit id => exact hp.elim
      | goto t => exact hp.elim
      | panic ch => exact hp.elim
      | outgrown => exact hp.elim
    · rintro e W2 ⟨⟨v, rfl⟩, (⟨s, hF, hi, hl, hk⟩ | ⟨hi, hl, hk⟩)⟩
      · exact ⟨none, _, by have := run_endLoop (P := P) hl (by rw [hrec]; simp [rec_]); rw [hrec] at this; exact this, hdone _ s _ (Nat.le_refl _) hF (hI.putObj _ hi (by omega) hl rfl) ((World.putObj_heap_other (by omega)).trans hk)⟩
      · exact ⟨some .ret, _, by have := run_endLoop (P := P) hl (by rw [hrec]; simp [rec_]); rw [hrec] at this; exact this, hstop _ _ (Nat.le_refl _) (hIx.putObj (s := ()) _ hi (by omega) hl rfl) ((World.putObj_heap_other (by omega)).trans hk)⟩
def splitL : Str → List Str
  | [] => [[]]
  | c :: s => if c = 59 then [] :: splitL s else (c :: (splitL s).headD []) :: (splitL s).tail
theorem splitL_ne (l : Str) : splitL l ≠ [] := by
  cases l with
  | nil => simp [splitL]
  | cons c s => simp only [splitL]; split <;> simp
theorem splitL_none : ∀ (l : Str), indexByte l 59 < 0 → splitL l = [l]
  | [], _ => rfl
  | c :: s, h => by
    unfold indexByte at h
    split at h
    · omega
    · rename_i hc
      have hge := indexByte_ge s 59
      have hs : indexByte s 59 < 0 := by
        split at h
        · rename_i he; have := beq_iff_eq.1 he; omega
        · omega
      simp only [splitL, splitL_none s hs]
      rw [if_neg (fun e => hc (beq_iff_eq.2 e))]
      rfl
theorem splitL_at : ∀ (l : Str) (i : Nat), indexByte l 59 = i → splitL l = l.take i :: splitL (l.drop (i + 1))
  | [], i, h => by simp [indexByte] at h
  | c :: s, i, h => by
    unfold indexByte at h
    split at h
    · rename_i hc
      obtain rfl : i = 0 := by omega
      simp [splitL, beq_iff_eq.1 hc]
    · rename_i hc
      have hge := indexByte_ge s 59
      split at h
      · omega
      · obtain ⟨j, rfl⟩ : ∃ j, i = j + 1 := ⟨i - 1, by
          rename_i he
          have : indexByte s 59 ≠ -1 := fun e => he (beq_iff_eq.2 e)
          omega⟩
        have ih := splitL_at s j (by omega)
        simp only [splitL, ih]
        rw [if_neg (fun e => hc (beq_iff_eq.2 e))]
        rfl
theorem index_lt (l : Str) (i : Nat) (h : indexByte l 59 = i) : i < l.length := by
  have := (indexByte_some h).1
  rcases Nat.lt_or_ge i l.length with h' | h'
  · exact h'
  · rw [List.getElem?_eq_none h'] at this; cases this
abbrev St := List Str × ByteArray
def cellLen (B : Nat) (w : World) : Nat := match w.cell? ⟨B, 0, none⟩ with | some (.string r) => r.size | _ => 0
theorem cellLen_of {B : Nat} {w : World} {r : ByteArray} (h : w.cell? ⟨B, 0, none⟩ = some (.string r)) : cellLen B w = r.size := by unfold cellLen; rw [h]
structure SplitVars (B : Nat) (r : ByteArray) (W : World) : Prop where
  s : W.cell? ⟨B, 0, none⟩ = some (.string r)
  fz : W.frozen? ⟨B, 0, none⟩ = false
  sep : W.cell? ⟨B + 1, 0, none⟩ = some (.string ⟨#[59]⟩)
  save : W.cell? ⟨B + 2, 0, none⟩ = some (.int .i64 0)
set_option maxHeartbeats 4000000 in
set_option maxRecDepth 100000 in
theorem split_iter (n : Nat) (B : Nat) (s : ByteArray) (hs : s.size ≤ 4611686018427387904) (I : St → World → Prop) (hc : ∀ st W, I st W → SplitVars B st.2 W)
    (hset : ∀ st r W, I st W → I (st.1, r) (W.setCell ⟨B, 0, none⟩ (.string r))) :
    IterAt n Tryz.prog 188 #[.pointer (some ⟨B + 1, 0, none⟩), .pointer (some ⟨B, 0, none⟩), .pointer (some ⟨B + 2, 0, none⟩)] B
      (fun st x => ∃ rest, splitL (lst s) = st.1 ++ lst x :: rest) (fun st x => (st.1 ++ [lst x], st.2)) (fun st => st.1 = splitL (lst s)) I ([], s) := by
  intro l J Jx W hJI hJs hY h0
  refine callsIn_of_wp Tryz.func188 rfl trivial ?_ rfl
  simp only [Tryz.ntmps188, List.size_toArray, List.length_cons, List.length_nil, Nat.reduceAdd, Nat.reduceSub, Array.replicate_succ, Array.replicate_zero, List.push_toArray, List.append_toArray, List.nil_append, List.cons_append]
  obtain ⟨c1, c2, c3, c4⟩ := hc _ _ (hJI _ _ h0)
  gi_wp2
  gi_loopw [] (fun wr => ∃ (pre : List Str) (r : ByteArray), splitL (lst s) = pre ++ splitL (lst r) ∧ r.size ≤ s.size ∧ J (pre, r) wr) (fun wr => cellLen B wr)
  case atStart => exact ⟨[], s, rfl, Nat.le_refl _, h0⟩
  case round =>
    obtain ⟨pre, r, hsp, hrs, hJ⟩ := hrel
    obtain ⟨d1, d2, d3, d4⟩ := hc _ _ (hJI _ _ hJ)
    have hmu := cellLen_of d1
    have cI := Tryz.strings_Index_one r 59 wr
    have hge := indexByte_ge r.data.toList 59
    by_cases hneg : indexByte r.data.toList 59 < 0
    · obtain ⟨fn, tmps, assign, body, hy, hR⟩ := hY (pre, r) r wr hJ ⟨[], by rw [hsp, splitL_none _ hneg]⟩
      gi_wp2_with fail
      refine ⟨trivial, fun h => (by cases h), ?_⟩
      refine (callsIn_wide.2 cI).mono ?_
      rintro e w' ⟨rfl, rfl⟩
      gi_wp2
      refine ⟨fun h => (by cases h), ?_⟩
      refine hR.mono ?_
      rintro e W3 (⟨rfl, hJ3⟩ | ⟨rfl, hJ3⟩)
      · gi_wp2
        go_end0
        exact ⟨⟨_, rfl⟩, .inl ⟨_, by rw [hsp, splitL_none _ hneg], hJ3⟩⟩
      · gi_wp2
        go_end0
        exact ⟨⟨_, rfl⟩, .inr hJ3⟩
    · obtain ⟨i, hi⟩ : ∃ i : Nat, indexByte r.data.toList 59 = i := ⟨(indexByte r.data.toList 59).toNat, by omega⟩
      have hil : i < r.size := by rw [Lib.size_eq]; exact index_lt _ _ hi
      have hsa := splitL_at (lst r) i hi
      rw [hi] at cI
      clear hneg hge
      obtain ⟨fn, tmps, assign, body, hy, hR⟩ := hY (pre, r) (r.extract 0 i) wr hJ ⟨_, by rw [hsp, hsa, lst_extract]; rfl⟩
      gi_wp2_with fail
      refine ⟨trivial, fun h => (by cases h), ?_⟩
      refine (callsIn_wide.2 cI).mono ?_
      rintro e w' ⟨rfl, rfl⟩
      gi_wp2
      refine ⟨fun h => (by cases h), ?_⟩
      refine hR.mono ?_
      rintro e W3 (⟨rfl, hJ3⟩ | ⟨rfl, hJ3⟩)
      · obtain ⟨e1, e2, e3, e4⟩ := hc _ _ (hJI _ _ hJ3)
        dsimp only at e1
        gi_wp2
        obtain ⟨R, hR2⟩ : ∃ R : ByteArray, r.extract (i + 1) r.size = R := ⟨_, rfl⟩
        have hlR : lst R = (lst r).drop (i + 1) := by rw [← hR2, lst_extract, List.take_of_length_le (by rw [← Lib.size_eq]; exact Nat.le_refl _)]
        have hRs : R.size < r.size := by rw [← hR2, ByteArray.size_extract]; omega
        rw [hR2, hmu]
        have hset2 := hset _ R _ (hJI _ _ hJ3)
        refine ⟨⟨pre ++ [lst (r.extract 0 i)], R, ?_, by omega, hJs _ _ _ _ hJ3 hset2⟩, ?_⟩
        · rw [hsp, hsa, lst_extract, hlR]
          simp
        · rw [cellLen_of (hc _ _ hset2).s]
          exact hRs
      · gi_wp2
        refine bodyPost_ret (results_none rfl _ _ _) rfl ?_
        exact ⟨⟨_, rfl⟩, .inr hJ3⟩
end Go.Proofs.YtlgmanbilaminaaGreatDoor.S3
