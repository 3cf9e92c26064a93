/-
  The code whose number is greater: the program's after. Conditions: the library's variables hold what its text lays; the numbers are small.
-/
import Derived.Test.YtldnbneblpebiaaGreatDoorEnv
import Derived.Deep.RegionHeld3
set_option linter.unusedVariables false
namespace Go.Proofs.YtldnbneblpebiaaGreatDoor
open Go Go.Proofs Go.RowKit Go.Lib Go.Sort

theorem grow_below (w : World) (k : Nat) (os : Array Obj) : Below w.heap.size w (grow (w.drewN k) os) := by
  have h := below_drewN (Below.refl w.heap.size w) k
  refine ⟨h.os, h.tape, h.output, ?_, fun b hb => ?_⟩
  · show w.heap.size ≤ ((w.drewN k).heap ++ os).size
    have := h.size
    rw [Array.size_append]
    omega
  · show ((w.drewN k).heap ++ os)[b]? = _
    have := h.size
    rw [Array.getElem?_append_left (by omega)]
    exact h.block b hb
theorem repeat_zeros : ∀ k : Nat, Lib.repeatL [48] k = zerosS k := by
  intro k
  induction k with
  | zero => rfl
  | succ k ih => simp [Lib.repeatL, zerosS, List.replicate_succ] at ih ⊢; try exact ih
theorem lst_add (a b : ByteArray) : lst (a ++ b) = lst a ++ lst b := by simp [lst]

/-- What after hands back. -/
def StrOut (l : Str) (w : World) (e : Ending) (w' : World) : Prop := (∃ R : ByteArray, e = .returned (.string R) ∧ lst R = l) ∧ Below w.heap.size w w'
set_option maxHeartbeats 4000000 in
set_option maxRecDepth 100000 in
theorem after_any (P : ByteArray) (num wd n : Nat) (hP : P.size ≤ 16) (hn : num + n ≤ 1000000000000000000) (hw : wd ≤ 16) (w : World) (hE : Env w) :
    Calls Tryz.prog 63 #[.agg #[.string P, .int .i64 (num : Int), .int .i64 (wd : Int)], .int .i64 (n : Int)] w (StrOut (lst P ++ wrS (num + n) wd) w) := by
  have e1 : IntKind.i64.wrap ((num : Int) + (n : Int)) = ((num + n : Nat) : Int) := by rw [IntWalk.i64_in _ (by omega)]; omega
  have hlen := dec_len (num + n) 19 (by have : (10 : Nat) ^ 19 = 10000000000000000000 := by decide
                                        omega) (by omega)
  have cI := Tryz.strconv_Itoa ((num + n : Nat) : Int) (by omega) (by omega)
  obtain ⟨N, hN⟩ : ∃ N : ByteArray, (⟨(Lib.itoa ((num + n : Nat) : Int)).toArray⟩ : ByteArray) = N := ⟨_, rfl⟩
  have hNl : lst N = decDigits (num + n) := by
    rw [← hN]
    show Lib.itoa ((num + n : Nat) : Int) = _
    unfold Lib.itoa
    rw [if_neg (by omega), Int.toNat_natCast]
  rw [hN] at cI
  have hNs : N.size = (decDigits (num + n)).length := by rw [← hNl]; exact Lib.size_eq N
  have HN := hid hNl
  have HNS := hid hNs
  have hNs2 : N.size ≤ 19 := by omega
  have CI := hid cI
  have HE := hid hE
  obtain ⟨M, hM⟩ : ∃ M, num + n = M := ⟨_, rfl⟩
  rw [hM] at e1 CI HN HNS ⊢
  clear hN hNl hNs cI hE hlen
  go_enter Tryz.func63, Tryz.ntmps63
  have hba : Below w.heap.size w (w.alloc (.cells #[.string P, .int .i64 (num : Int), .int .i64 (wd : Int)] 75)) := (Below.refl _ w).alloc (Nat.le_refl _) _
  have hz0 : (w.alloc (.cells #[.string P, .int .i64 (num : Int), .int .i64 (wd : Int)] 75)).heap[w.heap.size]? = some (.cells #[.string P, .int .i64 (num : Int), .int .i64 (wd : Int)] 75 (0, 0)) := heap_alloc_new w _
  have hzs : w.heap.size < (w.alloc (.cells #[.string P, .int .i64 (num : Int), .int .i64 (wd : Int)] 75)).heap.size := by simp
  have HBA := hid hba
  have HZ0 := hid hz0
  clear hba hz0
  go_wp2_with fail
  generalize w.alloc (.cells #[.string P, .int .i64 (num : Int), .int .i64 (wd : Int)] 75) = w1 at HBA HZ0 hzs ⊢
  refine (CI.out _ ((HE.out.below HBA.out).tab)).mono ?_
  rintro e w2 ⟨rfl, k, os, hw2⟩
  have hb2 : Below w1.heap.size w1 w2 := by rw [hw2]; exact grow_below _ _ _
  have hz2 := (hb2.block _ hzs).trans HZ0.out
  have HB2 := hid (HBA.out.trans (hb2.mono HBA.out.size))
  have c0 : w2.cell? ⟨w.heap.size, 0, none⟩ = some (.string P) := by rw [Lib.cell_of_heap hz2]; rfl
  have c1 : w2.cell? ⟨w.heap.size, 1, none⟩ = some (.int .i64 (num : Int)) := by rw [Lib.cell_of_heap hz2]; rfl
  have c2 : w2.cell? ⟨w.heap.size, 2, none⟩ = some (.int .i64 (wd : Int)) := by rw [Lib.cell_of_heap hz2]; rfl
  have hzs2 : w.heap.size < w2.heap.size := Nat.lt_of_lt_of_le hzs hb2.size
  have HZ2 := hid hz2
  obtain ⟨z, hz, hz16⟩ : ∃ z : Nat, z = wd - N.size ∧ z ≤ 16 := ⟨_, rfl, by omega⟩
  have hmax : max 0 ((wd : Int) - (N.size : Int)) = (z : Int) := by omega
  have HZ := hid hz
  clear hw2 hb2 hz2 hz HBA HZ0 CI HE hzs
  obtain ⟨Z, hZ⟩ : ∃ Z : ByteArray, (⟨(Lib.repeatL (⟨#[48]⟩ : ByteArray).data.toList z).toArray⟩ : ByteArray) = Z := ⟨_, rfl⟩
  have hZl : lst Z = zerosS z := by rw [← hZ]; exact repeat_zeros z
  have hZs : Z.size = z := by rw [show Z.size = (lst Z).length from Lib.size_eq Z, hZl]; simp [zerosS]
  have cR := fun w => Tryz.strings_Repeat ⟨#[48]⟩ z w (by omega) (by rw [show (⟨#[48]⟩ : ByteArray).size = 1 from rfl]; omega)
  rw [hZ] at cR
  have add1 : ∀ w, (Op.stringOp .add P Z).run Tryz.prog w = .ok (.string (P ++ Z)) w := fun w => run_string_add_sum (w := w) _ _ (by omega)
  have add2 : ∀ w, (Op.stringOp .add (P ++ Z) N).run Tryz.prog w = .ok (.string (P ++ Z ++ N)) w := fun w => run_string_add_sum (w := w) _ _ (by rw [ByteArray.size_append]; omega)
  have hfin : Hid (lst (P ++ Z ++ N) = lst P ++ wrS M wd) := hid (by
    rw [lst_add, lst_add, hZl, HN.out, List.append_assoc]
    unfold wrS
    rw [← HNS.out, HZ.out])
  clear hZ hZl hZs c1
  go_wp2_with fail
  try rw [hmax]
  clear hmax c2 hz16 hNs2
  go_region_held3 (fun w' => w'.cell? ⟨w.heap.size, 0, none⟩ = some (.string P)) (go_keep) (first | (go_at_call 79; refine (cR _).mono ?_; rintro e w' ⟨rfl, hb'⟩; have c0' := (hb'.cell (p := ⟨w.heap.size, 0, none⟩) hzs2).trans c0; have HB' := hid hb'))
  all_goals
    go_wp2
    go_ret
    exact ⟨⟨_, rfl, hfin.out⟩, HB2.out.trans (((Below.refl w.heap.size w2).drew).trans (HB'.out.mono HB2.out.size))⟩
end Go.Proofs.YtldnbneblpebiaaGreatDoor
