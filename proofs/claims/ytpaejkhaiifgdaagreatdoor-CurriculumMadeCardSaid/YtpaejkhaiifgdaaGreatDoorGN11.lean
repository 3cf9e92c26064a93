/-
  Whether a class is single, by the program: slices.IndexFunc and ContainsFunc at its closure, isSingle. Conditions: the classes lie in memory, at most 40.
  Small general facts and definitions, taken out of R8M. No program.
  Small general facts and definitions, taken out of R8A. No program.
  Sets of weeks: plain mathematics. No program, no conditions.
  The classes that a student of a curriculum attends, by the program: attendedBy. Conditions: the classes and the curriculum lie in memory; at most 40 classes.
  The pairs of classes of a curriculum, by the program: Pairs. Conditions: the classes and the curriculum lie in memory; at most 40 classes.
  Two arrays of two ints: whether they are unequal. No condition.
-/
import Derived.Test.YtpaejkhaiifgdaaGreatDoorGN01
import Derived.Test.YtpaejkhaiifgdaaGreatDoorGN03
import Derived.Test.YtpaejkhaiifgdaaGreatDoorGN04
import Derived.Test.YtpaejkhaiifgdaaGreatDoorGN06
import Derived.Test.YtpaejkhaiifgdaaGreatDoorGN08
import Derived.Test.YtpaejkhaiifgdaaGreatDoorGN10
import Derived.Test.YtpaejkhaiifgdaaGreatDoorProg
import Derived.WalkKit
import Derived.WalkSpells
import Derived.WalkLawsBesides
import Derived.Lib.Hide
import Derived.Deep.QuietTactic
import Derived.BigQuiet
import Derived.Laws.Rows
import Derived.OwnWalk
import Derived.Lib.BufferWrite
import Derived.Lib.UnsafeStr
import Derived.Laws.IdiomStrings
import Derived.Laws.BytesArg
import Derived.Laws.BytesString
import Derived.Laws.OwnMore
import Derived.Lib.IndexLaws
import Derived.Lib.ItoaNum
import Derived.Lib.Atoi
import Derived.Lib.Bytealg
import Derived.Deep.RegionLaw
import Derived.Deep.RegionHeld3
import Derived.Handy
import Derived.RegionTactic
import Derived.Deep.DeepCutAuto
import Derived.Deep.CutBlock
import Derived.Shelf.Abstract
import Derived.Laws.AppendOwn
import Derived.Maps.OwnSet
import Derived.Maps.Range
import Derived.Laws.Tables
import Derived.Maps.AppendAt
import Derived.Stop.BytesEq
set_option linter.unusedVariables false
namespace Go.Proofs.YtpaejkhaiifgdaaGreatDoor.S11
open Go Go.Proofs Go.RowKit Go.Lib Go.Proofs.YtpaejkhaiifgdaaGreatDoor Go.Proofs.YtpaejkhaiifgdaaGreatDoor.S10

theorem egSingle : ∀ args w, (callFunc 77 args).run Tryz.prog w = .ok (.enter 77 args) w := enters_of Tryz.func77 (by kernel_rfl) rfl
set_option maxHeartbeats 8000000 in
set_option maxRecDepth 100000 in
theorem clsIndex_any (LB IB M : Nat) (A : Option Addr) (l : List ClassD) (c i : Nat) (hi : i < l.length) (hl : l.length ≤ 40) (As : Option Addr) (s : List ClassD) (cs : Nat) (hs : s.length ≤ 40) (w : World) (h : KS LB IB M A l c i w) (hS : ClassesIn w (fun k => k < M) As s) :
    Calls Tryz.prog 92 #[.slice As s.length cs, .func (.func 77) #[] #[.pointer (some ⟨LB, 0, none⟩), .pointer (some ⟨IB, 0, none⟩)]] w fun e w' => (∃ k : Int, e = .returned (.int .i64 k) ∧ -1 ≤ k ∧ decide (0 ≤ k) = s.any (parB l[i])) ∧ Below w.heap.size w w' := by
  have eg := egSingle
  have HK := hid h
  have HS := hid hS
  have CT := hid (fun (W : World) (y : ClassD) (q' : ClassA) (hW : KS LB IB M A l c i W) => single1_any LB IB M A l c i hi hl y q' W hW)
  obtain ⟨x, hx⟩ : ∃ x, l[i] = x := ⟨_, rfl⟩
  rw [hx] at CT ⊢
  clear h hS hx
  go_enter Tryz.func92, Tryz.ntmps92
  go_wp2
  go_loopw [5, 8] (fun _ iv wr => ∃ j : Nat, iv = .int .i64 (j : Int) ∧ j ≤ s.length ∧ Hid ((s.take j).any (parB x) = false) ∧ Hid (Below w.heap.size w wr)) (fun _ iv _ => s.length - (RowKit.intOf iv).toNat)
  case atStart => exact ⟨0, rfl, Nat.zero_le _, hid rfl, hid (Below.refl _ _)⟩
  case round =>
    obtain ⟨j, rfl, hj, hN, hBw⟩ := hrel
    by_cases hlt : j < s.length
    · have hltz : (j : Int) < (s.length : Int) := by omega
      have d1 : decide (s.length ≤ j) = false := decide_eq_false (by omega)
      obtain ⟨b, o, q, rfl, hb, _, hc⟩ := HS.out.at_ hlt
      have hc' := hc.kept (hBw.out.block b (Nat.lt_of_lt_of_le hb HK.out.m))
      have hst : (s.take (j + 1)).any (parB x) = parB x s[j] := by
        rw [List.take_succ_eq_append_getElem hlt, List.any_append, hN.out]
        simp
      have hmem : parB x s[j] = true → s.any (parB x) = true := fun h => List.any_eq_true.2 ⟨_, List.getElem_mem hlt, h⟩
      obtain ⟨y, hy⟩ : ∃ y, s[j] = y := ⟨_, rfl⟩
      rw [hy] at hc' hst hmem
      obtain ⟨z0, z1, z2, z3, z4, z5, z6, z7, z8⟩ := hc'
      have cC := CT.out wr y q (HK.out.next hBw.out)
      unfold Says clsV at cC
      obtain ⟨t, ht⟩ : ∃ t, parB x y = t := ⟨_, rfl⟩
      rw [ht] at cC hst hmem
      have CC := hid cC
      have HST := hid hst
      have HMEM := hid hmem
      clear hc hy ht cC hst hmem hb
      go_wp2_with fail
      refine CC.out.mono ?_
      rintro e w2 ⟨rfl, hb2⟩
      have HB2 := hid (hBw.out.trans (hb2.mono hBw.out.size))
      clear hb2
      cases t with
      | true =>
        go_wp2
        go_ret
        exact ⟨⟨_, rfl, by omega, by rw [HMEM.out trivial]; exact decide_eq_true (by omega)⟩, HB2.out⟩
      | false =>
        go_wp2
        go_roundw
        case rel => exact ⟨j + 1, by go_num, by omega, HST, HB2⟩
        case measure => simp [RowKit.intOf]; omega
    · have hltz : ¬ (j : Int) < (s.length : Int) := by omega
      have hn := hN.out
      rw [List.take_of_length_le (by omega)] at hn
      go_wp2
      go_ret
      exact ⟨⟨-1, rfl, by omega, by first | exact hn.symm | omega⟩, hBw.out⟩
set_option maxHeartbeats 2000000 in
theorem clsContains_any (LB IB M : Nat) (A : Option Addr) (l : List ClassD) (c i : Nat) (hi : i < l.length) (hl : l.length ≤ 40) (As : Option Addr) (s : List ClassD) (cs : Nat) (hs : s.length ≤ 40) (w : World) (h : KS LB IB M A l c i w) (hS : ClassesIn w (fun k => k < M) As s) :
    Calls Tryz.prog 79 #[.slice As s.length cs, .func (.func 77) #[] #[.pointer (some ⟨LB, 0, none⟩), .pointer (some ⟨IB, 0, none⟩)]] w (Says (.bool (s.any (parB l[i]))) w) := by
  have cI := clsIndex_any LB IB M A l c i hi hl As s cs hs w h hS
  unfold Says
  obtain ⟨D, hD⟩ : ∃ D, s.any (parB l[i]) = D := ⟨_, rfl⟩
  rw [hD] at cI
  rw [hD]
  obtain ⟨n, hn⟩ : ∃ n, s.length = n := ⟨_, rfl⟩
  rw [hn] at cI ⊢
  have CI := hid cI
  clear cI h hS hD hn
  go_enter Tryz.func79, Tryz.ntmps79
  go_wp2_with fail
  refine CI.out.mono ?_
  rintro e w' ⟨⟨k, rfl, hk, hd⟩, hb⟩
  have HB := hid hb
  have HD := hid hd
  clear hb hd
  go_wp2
  go_ret
  exact ⟨by rw [← HD.out]; rfl, HB.out⟩
set_option maxHeartbeats 8000000 in
set_option maxRecDepth 100000 in
theorem isSingle_any (A : Option Addr) (l : List ClassD) (c i : Nat) (hi : i < l.length) (hl : l.length ≤ 40) (hlc : l.length ≤ c) (hc : c ≤ 9223372036854775807) (w : World) (h : ClassesIn w (fun k => k < w.heap.size) A l) :
    Calls Tryz.prog 61 #[.slice A l.length c, .int .i64 (i : Int)] w (Says (.bool (singleB l i)) w) := by
  rw [singleB_at hi]
  have hb1 := (Below.refl w.heap.size w).alloc (Nat.le_refl _) (.cells #[.slice A l.length c] 24)
  have hL := S10.Box1.new w 24 (.slice A l.length c)
  have hs1 : (w.alloc (.cells #[.slice A l.length c] 24)).heap.size = w.heap.size + 1 := by simp
  obtain ⟨w1, hw1⟩ : ∃ W, w.alloc (.cells #[.slice A l.length c] 24) = W := ⟨_, rfl⟩
  rw [hw1] at hb1 hL hs1
  have hb2 := (Below.refl w1.heap.size w1).alloc (Nat.le_refl _) (.cells #[.int .i64 (i : Int)] 3)
  have hI := S10.Box1.new w1 3 (.int .i64 (i : Int))
  rw [hs1] at hI
  obtain ⟨w2, hw2⟩ : ∃ W, w1.alloc (.cells #[.int .i64 (i : Int)] 3) = W := ⟨_, rfl⟩
  rw [hw2] at hb2 hI
  have hb := hb1.trans (hb2.mono (by omega))
  have hk : KS w.heap.size (w.heap.size + 1) w.heap.size A l c i w2 := ⟨(hL.next hb2).cell, hI.cell, h.kept (fun k hk => hb.block k hk), Nat.lt_of_lt_of_le hL.lt hb2.size, hI.lt, hb.size⟩
  have hin : ∀ W, Below w.heap.size w W → ClassesIn W (fun k => k < w.heap.size) A l := fun W hW => h.kept (fun k hk => hW.block k hk)
  obtain ⟨fb, fo, q, rfl, _⟩ := h.at_ hi
  have CA : Hid (∀ W, KS w.heap.size (w.heap.size + 1) w.heap.size (some ⟨fb, fo, none⟩) l c i W → Calls Tryz.prog 79 #[.slice (some ⟨fb, fo, none⟩) i c, .func (.func 77) #[] #[.pointer (some ⟨w.heap.size, 0, none⟩), .pointer (some ⟨w.heap.size + 1, 0, none⟩)]] W fun e w' => e = .returned (.bool ((l.take i).any (parB l[i]))) ∧ KS w.heap.size (w.heap.size + 1) w.heap.size (some ⟨fb, fo, none⟩) l c i w' ∧ Below W.heap.size W w') := hid (fun W hW => by
    have := clsContains_any w.heap.size (w.heap.size + 1) w.heap.size (some ⟨fb, fo, none⟩) l c i hi hl (some ⟨fb, fo, none⟩) (l.take i) c (by rw [List.length_take]; omega) W hW (ClassesIn.take hW.cc i)
    rw [List.length_take, Nat.min_eq_left (Nat.le_of_lt hi)] at this
    exact this.mono fun e w' ⟨he, hb⟩ => ⟨he, hW.next hb, hb⟩)
  have CB : Hid (∀ W, KS w.heap.size (w.heap.size + 1) w.heap.size (some ⟨fb, fo, none⟩) l c i W → Calls Tryz.prog 79 #[.slice (if c = i + 1 then some ⟨fb, fo, none⟩ else some ⟨fb, fo + (i + 1) * 9, none⟩) (l.length - (i + 1)) (c - (i + 1)), .func (.func 77) #[] #[.pointer (some ⟨w.heap.size, 0, none⟩), .pointer (some ⟨w.heap.size + 1, 0, none⟩)]] W fun e w' => e = .returned (.bool ((l.drop (i + 1)).any (parB l[i]))) ∧ Below W.heap.size W w') := hid (fun W hW => by
    have := clsContains_any w.heap.size (w.heap.size + 1) w.heap.size (some ⟨fb, fo, none⟩) l c i hi hl (if c = i + 1 then some ⟨fb, fo, none⟩ else some ⟨fb, fo + (i + 1) * 9, none⟩) (l.drop (i + 1)) (c - (i + 1)) (by rw [List.length_drop]; omega) W hW (ClassesIn.drop hW.cc (i + 1) c hlc)
    rw [List.length_drop] at this
    exact this)
  obtain ⟨U, hU⟩ : ∃ U, (l.take i).any (parB l[i]) = U := ⟨_, rfl⟩
  obtain ⟨V, hV⟩ : ∃ V, (l.drop (i + 1)).any (parB l[i]) = V := ⟨_, rfl⟩
  rw [hU] at CA ⊢
  rw [hV] at CB ⊢
  unfold Says
  have HK := hid hk
  have HB := hid hb
  have HW1 := hid hw1
  have HW2 := hid hw2
  have qi : IntKind.i64.wrap ((i : Int) + 1) = (i : Int) + 1 := IntWalk.i64_in _ (by omega)
  obtain ⟨N, hN⟩ : ∃ N, l.length = N := ⟨_, rfl⟩
  have k1 := hk.cl
  have k2 := hk.ci
  rw [hN] at CB HW1 hi hl hlc k1 ⊢
  have hci : i ≤ c := by omega
  have hci1 : i + 1 ≤ N := by omega
  have HNN := hid hN
  clear hb1 hL hs1 hw1 hb2 hI hw2 hb hk hin h hU hV hN
  cases U with
  | true =>
    go_enter Tryz.func61, Tryz.ntmps61
    go_wp2_with fail
    (try rw [HW1.out])
    (try rw [HW2.out])
    refine (CA.out _ HK.out).mono ?_
    rintro e w3 ⟨rfl, hk3, hb3⟩
    have HB3 := hid (HB.out.trans (hb3.mono HB.out.size))
    clear hk3 hb3
    go_wp2
    go_ret
    exact ⟨rfl, HB3.out⟩
  | false =>
    go_enter Tryz.func61, Tryz.ntmps61
    go_wp2_with fail
    (try rw [HW1.out])
    (try rw [HW2.out])
    refine (CA.out _ HK.out).mono ?_
    rintro e w3 ⟨rfl, hk3, hb3⟩
    have HB3 := hid (HB.out.trans (hb3.mono HB.out.size))
    have HK3 := hid hk3
    have k13 := hk3.cl
    have k23 := hk3.ci
    rw [HNN.out] at k13
    clear hk3 hb3 k1 k2
    go_wp2_with fail
    all_goals
      have cB := CB.out _ HK3.out
      simp only [h, if_true, if_false, Nat.sub_self] at cB
      refine cB.mono ?_
      rintro e w4 ⟨rfl, hb4⟩
      have HB4 := hid (HB3.out.trans (hb4.mono HB3.out.size))
      clear hb4
      go_wp2
      go_ret
      exact ⟨by cases V <;> rfl, HB4.out⟩
end Go.Proofs.YtpaejkhaiifgdaaGreatDoor.S11

set_option linter.unusedVariables false
namespace Go.Proofs.YtpaejkhaiifgdaaGreatDoor
open Go Go.Proofs Go.RowKit Go.Lib

/-- The place of a string from the k-th on. -/
def plcN : List Str → Str → Nat → Int
  | [], _, _ => -1
  | x :: r, s, k => if x = s then (k : Int) else plcN r s (k + 1)
def plc (l : List Str) (s : Str) : Int := plcN l s 0
theorem plcN_step (l : List Str) (s : Str) (k : Nat) (h : k < l.length) : plcN (l.drop k) s k = if l[k] = s then (k : Int) else plcN (l.drop (k + 1)) s (k + 1) := by
  rw [List.drop_eq_getElem_cons h]
  rfl
theorem plcN_end (l : List Str) (s : Str) (k : Nat) (h : l.length ≤ k) : plcN (l.drop k) s k = -1 := by
  rw [List.drop_eq_nil_of_le h]
  rfl
theorem plcN_spec : ∀ (l : List Str) (s : Str) (k : Nat), (plcN l s k = -1 ∧ s ∉ l) ∨ (∃ j : Nat, plcN l s k = ((k + j : Nat) : Int) ∧ l[j]? = some s ∧ s ∉ l.take j)
  | [], s, k => .inl ⟨rfl, by simp⟩
  | x :: r, s, k => by
    unfold plcN
    by_cases hx : x = s
    · rw [if_pos hx]
      exact .inr ⟨0, rfl, by simp [hx], by simp⟩
    · rw [if_neg hx]
      rcases plcN_spec r s (k + 1) with ⟨h1, h2⟩ | ⟨j, h1, h2, h3⟩
      · exact .inl ⟨h1, by simp [h2, Ne.symm hx]⟩
      · exact .inr ⟨j + 1, by rw [h1]; omega, by simpa using h2, by simp [h3, Ne.symm hx]⟩
theorem plc_spec (l : List Str) (s : Str) : (plc l s = -1 ∧ s ∉ l) ∨ (∃ j : Nat, plc l s = (j : Int) ∧ j < l.length ∧ l[j]? = some s ∧ s ∉ l.take j) := by
  rcases plcN_spec l s 0 with h | ⟨j, h1, h2, h3⟩
  · exact .inl h
  · exact .inr ⟨j, by rw [plc, h1]; omega, (List.getElem?_eq_some_iff.1 h2).1, h2, h3⟩
theorem plc_mem (l : List Str) (s : Str) : decide (0 ≤ plc l s) = decide (s ∈ l) := by
  rcases plc_spec l s with ⟨h1, h2⟩ | ⟨j, h1, hj, h2, h3⟩
  · rw [h1, decide_eq_false h2]; rfl
  · rw [h1, decide_eq_true (List.mem_of_getElem? h2), decide_eq_true (by omega)]
end Go.Proofs.YtpaejkhaiifgdaaGreatDoor

set_option linter.unusedVariables false
namespace Go.Proofs.YtpaejkhaiifgdaaGreatDoor
open Go Go.Proofs Go.RowKit Go.Lib

set_option maxHeartbeats 2000000 in
set_option maxRecDepth 100000 in
theorem index_any (A : Option Addr) (l : List Str) (c : Nat) (x : ByteArray) (P : Nat → Prop) (w : World) (h : S3.StrsIn w P A l) (h63 : l.length ≤ 9223372036854775807) :
    Calls Tryz.prog 76 #[.slice A l.length c, .string x] w fun e w' => e = .returned (.int .i64 (plc l (lst x))) ∧ w = w' := by
  obtain ⟨ANS, hA⟩ : ∃ ANS, plc l (lst x) = ANS := ⟨_, rfl⟩
  rw [hA]
  have HA : Hid (plcN (l.drop 0) (lst x) 0 = ANS) := hid hA
  have HH := hid h
  clear h hA
  go_enter Tryz.func76, Tryz.ntmps76
  go_wp2
  go_loop [5, 8] (fun _ iv => ∃ i : Nat, iv = .int .i64 (i : Int) ∧ i ≤ l.length ∧ Hid (plcN (l.drop i) (lst x) i = ANS)) (fun _ iv => l.length - (RowKit.intOf iv).toNat)
  case atStart => exact ⟨0, rfl, Nat.zero_le _, HA⟩
  case round =>
    obtain ⟨i, rfl, hi, hE⟩ := hrel
    by_cases hlt : i < l.length
    · have hltz : (i : Int) < (l.length : Int) := by omega
      obtain ⟨b1, o1, rfl, _, hc1⟩ := HH.out.at_ hlt
      have hst := plcN_step l (lst x) i hlt
      rw [hE.out] at hst
      obtain ⟨y, hy⟩ : ∃ y, l[i] = y := ⟨_, rfl⟩
      rw [hy] at hc1 hst
      obtain ⟨Y, hY⟩ : ∃ Y : ByteArray, (⟨y.toArray⟩ : ByteArray) = Y := ⟨_, rfl⟩
      have hYl : Y.toList = y := by rw [Lib.toList_data, ← hY]
      have hXl : x.toList = lst x := Lib.toList_data x
      have e1 : S3.strV y = .string Y := by rw [← hY]; rfl
      rw [e1] at hc1
      by_cases hxy : y = lst x
      · have hbe : (x.toList == Y.toList) = true := by rw [hXl, hYl, hxy]; simp
        rw [if_pos hxy] at hst
        have HST := hid hst
        clear hy hY hYl hXl e1 hst hE hxy
        go_wp2
        go_ret
        exact ⟨by rw [HST.out]; rfl, rfl⟩
      · have hbe : (x.toList == Y.toList) = false := by rw [hXl, hYl]; simpa using fun e => hxy e.symm
        rw [if_neg hxy] at hst
        have HST := hid hst.symm
        clear hy hY hYl hXl e1 hst hE hxy
        go_wp2
        go_round
        case rel => exact ⟨i + 1, by go_num, by omega, HST⟩
        case measure => simp [RowKit.intOf]; omega
    · have hltz : ¬ (i : Int) < (l.length : Int) := by omega
      have hst := plcN_end l (lst x) i (by omega)
      rw [hE.out] at hst
      have HST := hid hst
      clear hst hE
      go_wp2
      go_ret
      exact ⟨by rw [HST.out]; rfl, rfl⟩
set_option maxHeartbeats 2000000 in
theorem contains_any (A : Option Addr) (l : List Str) (c : Nat) (x : ByteArray) (P : Nat → Prop) (w : World) (h : S3.StrsIn w P A l) (h63 : l.length ≤ 9223372036854775807) :
    Calls Tryz.prog 60 #[.slice A l.length c, .string x] w fun e w' => e = .returned (.bool (decide (lst x ∈ l))) ∧ w = w' := by
  have cI := index_any A l c x P w h h63
  have hm := plc_mem l (lst x)
  obtain ⟨p, hp⟩ : ∃ p, plc l (lst x) = p := ⟨_, rfl⟩
  rw [hp] at cI hm
  rw [← hm]
  obtain ⟨n, hn⟩ : ∃ n, l.length = n := ⟨_, rfl⟩
  rw [hn] at cI ⊢
  clear hm hp hn h h63
  go_enter Tryz.func60, Tryz.ntmps60
  go_wp2_with fail
  refine cI.mono ?_
  rintro e w' ⟨rfl, rfl⟩
  go_wp2
  go_ret
  exact ⟨rfl, rfl⟩
end Go.Proofs.YtpaejkhaiifgdaaGreatDoor

set_option linter.unusedVariables false
namespace Go.Proofs.YtpaejkhaiifgdaaGreatDoor
open Go Go.Lib

/-! ### bits -/
def castL (l : List Nat) : List Int := l.map fun (n : Nat) => (n : Int)
theorem castL_app (a b : List Nat) : castL (a ++ b) = castL a ++ castL b := by simp [castL]
theorem castL_len (a : List Nat) : (castL a).length = a.length := by simp [castL]
/-! ### named sets, spans -/
/-! ### items -/
/-- The parts between the commas. -/
def splitL : Str → List Str
  | [] => [[]]
  | c :: s => if c = 44 then [] :: splitL s else (c :: (splitL s).headD []) :: (splitL s).tail
/-! ### runs -/
/-- How many of a list go on from a number. -/
def cnt : Nat → List Nat → Nat
  | _, [] => 0
  | a, b :: l => if b = a + 1 then cnt b l + 1 else 0
def runs : List Nat → List (Nat × Nat)
  | [] => []
  | a :: l => (a, a + cnt a l) :: runs (l.drop (cnt a l))
termination_by l => l.length
decreasing_by simp; omega
end Go.Proofs.YtpaejkhaiifgdaaGreatDoor

set_option linter.unusedVariables false
namespace Go.Proofs.YtpaejkhaiifgdaaGreatDoor.S11
open Go Go.Proofs Go.RowKit Go.Lib Go.Proofs.YtpaejkhaiifgdaaGreatDoor Go.Proofs.YtpaejkhaiifgdaaGreatDoor.S10

/-- What hands back indices in a slice of its own. -/
def AttOut (l : List Nat) (w : World) (e : Ending) (w' : World) : Prop := (∃ v, e = .returned v ∧ IntRow w' w.heap.size v (castL l)) ∧ Below w.heap.size w w'
/-- What stands while indices are gathered. -/
structure KT (w0 : World) (v0 v1 : Value) (L : List Nat) (v : Value) (w : World) : Prop where
  x : Box2 w w0.heap.size v0 v1
  r : IntRow w (w0.heap.size + 1) v (castL L)
  b : Below w0.heap.size w0 w
theorem KT.next {w0 w w' : World} {v0 v1 : Value} {L : List Nat} {v : Value} (h : KT w0 v0 v1 L v w) (k : Below w.heap.size w w') : KT w0 v0 v1 L v w' :=
  ⟨h.x.next k, row_under h.r k, h.b.trans (k.mono h.b.size)⟩
theorem KT.app {w0 w w' : World} {v0 v1 : Value} {L L' : List Nat} {v v' : Value} (h : KT w0 v0 v1 L v w) (hg : w.grownBy w' v.ownBlock) (hr : IntRow w' (w0.heap.size + 1) v' (castL L')) : KT w0 v0 v1 L' v' w' :=
  ⟨h.x.kept (hg.block _ h.x.lt (fun e => by have := (World.ownsRow.lt h.r _ e.symm).1; omega)), hr, h.b.grown hg h.b.size (fun k hk => by have := (World.ownsRow.lt h.r k hk).1; omega)⟩
theorem one_nat (n : Int) : ∀ u ∈ [Value.int .i64 n], u.oneCell' = true := by
  intro u hu
  rw [List.mem_singleton] at hu
  subst hu
  rfl
set_option maxHeartbeats 16000000 in
set_option maxRecDepth 100000 in
theorem attended_any (x : CurrD) (q : CurrA) (A : Option Addr) (l : List ClassD) (c : Nat) (hl : l.length ≤ 40) (hlc : l.length ≤ c) (hc : c ≤ 9223372036854775807) (w : World) (hx : CurrIn w (fun k => k < w.heap.size) x q) (h : ClassesIn w (fun k => k < w.heap.size) A l) :
    Calls Tryz.prog 40 #[currV x q, .slice A l.length c] w (AttOut (attL x.2 l) w) := by
  obtain ⟨i3, hi3, hz3, hs3, hb3⟩ := info_parts infoInt
  obtain ⟨code, cs⟩ := x
  obtain ⟨A2, c2⟩ := q
  obtain ⟨ht, ht1, ht2⟩ := hx
  unfold currV AttOut
  dsimp only at ht ht1 ht2 ⊢
  have hx0 := Box2.new w (.string (ba code)) (.slice A2 cs.length c2)
  have hb0 := (Below.refl w.heap.size w).alloc (Nat.le_refl _) (.cells #[.string (ba code), .slice A2 cs.length c2] 41)
  have cC := hid (fun (W : World) (s : ByteArray) (hb : Below w.heap.size w W) => contains_any A2 cs c2 s _ W (ht.below hb) (Nat.le_trans ht1 ht2))
  have CSI := hid (fun (W : World) (i : Nat) (hi : i < l.length) (hb : Below w.heap.size w W) => isSingle_any A l c i hi hl hlc hc W ((h.below hb).mono (fun k hk => Nat.lt_of_lt_of_le hk hb.size)))
  have HH := hid (fun (W : World) (hb : Below w.heap.size w W) => h.below hb)
  obtain ⟨X1, hX1⟩ : ∃ X, ba code = X := ⟨_, rfl⟩
  rw [hX1] at hx0 hb0 ⊢
  have hk0 : KT w (.string X1) (.slice A2 cs.length c2) [] (.slice none 0 0) (w.alloc (.cells #[.string X1, .slice A2 cs.length c2] 41)) := ⟨hx0, World.ownsRow_nil _ _ _ _, hb0⟩
  have HK0 := hid hk0
  clear hx0 hb0 ht hX1 h hk0
  go_enter Tryz.func40, Tryz.ntmps40
  go_wp2
  generalize w.alloc (.cells #[.string X1, .slice A2 cs.length c2] 41) = w1 at HK0 ⊢
  go_loopw [5, 6, 7, 10] (fun v _ _ iv wr => ∃ (i n : Nat) (Ar : Option Addr) (cr : Nat), v = .slice Ar n cr ∧ iv = .int .i64 (i : Int) ∧ i ≤ l.length ∧ Hid (((List.range i).filter (attB cs l)).length = n) ∧ Hid (KT w (.string X1) (.slice A2 cs.length c2) ((List.range i).filter (attB cs l)) (.slice Ar n cr) wr)) (fun _ _ _ iv _ => l.length - (RowKit.intOf iv).toNat)
  case atStart => exact ⟨0, 0, none, 0, rfl, rfl, Nat.zero_le _, hid rfl, HK0⟩
  case round =>
    obtain ⟨i, n, Ar, cr, rfl, rfl, hi, hn, hK⟩ := hrel
    by_cases hlt : i < l.length
    · have hltz : (i : Int) < (l.length : Int) := by omega
      have dk : decide (l.length ≤ i) = false := decide_eq_false (by omega)
      obtain ⟨fb, fo, q, rfl, hfb, _, hat⟩ := (HH.out wr hK.out.b).at_ hlt
      have hst := attL_step cs l i
      rw [attB_at hlt] at hst
      have hb1 := (Below.refl wr.heap.size wr).alloc (Nat.le_refl _) (.cells (clsArr l[i] q) 65)
      have hX := BoxC.new wr (clsArr l[i] q)
      have hs1 : (wr.alloc (.cells (clsArr l[i] q) 65)).heap.size = wr.heap.size + 1 := by simp
      have hn40 : n ≤ i := by rw [← hn.out]; exact Nat.le_trans (List.length_filter_le _ _) (by simp)
      obtain ⟨⟨d0, d1, d2, len, pats, seats, feats, staff, starts⟩, hr⟩ : ∃ r, l[i] = r := ⟨_, rfl⟩
      unfold clsArr at hb1 hX hs1
      rw [hr] at hat hst hb1 hX hs1
      dsimp only at hat hst hb1 hX hs1
      have cC1 := cC.out (wr.alloc (.cells #[.string (ba d0), .string (ba d1), .string (ba d2), .int .i64 len, .slice q.aP pats.length q.cP, .int .i64 seats, .slice q.aF feats.length q.cF, .slice q.aS staff.length q.cS, .slice q.aT starts.length q.cT] 65)) (ba d1) (hK.out.b.trans (hb1.mono hK.out.b.size))
      rw [lst_ba] at cC1
      obtain ⟨U, hU⟩ : ∃ U, decide (d1 ∈ cs) = U := ⟨_, rfl⟩
      obtain ⟨V, hV⟩ : ∃ V, singleB l i = V := ⟨_, rfl⟩
      have cS1 := CSI.out (wr.alloc (.cells #[.string (ba d0), .string (ba d1), .string (ba d2), .int .i64 len, .slice q.aP pats.length q.cP, .int .i64 seats, .slice q.aF feats.length q.cF, .slice q.aS staff.length q.cS, .slice q.aT starts.length q.cT] 65)) i hlt (hK.out.b.trans (hb1.mono hK.out.b.size))
      unfold Says at cS1
      rw [hU] at cC1 hst
      rw [hV] at cS1 hst
      obtain ⟨X0, hX0⟩ : ∃ X, ba d0 = X := ⟨_, rfl⟩
      obtain ⟨Y1, hY1⟩ : ∃ X, ba d1 = X := ⟨_, rfl⟩
      obtain ⟨X2, hX2⟩ : ∃ X, ba d2 = X := ⟨_, rfl⟩
      obtain ⟨nP, hnP⟩ : ∃ F, pats.length = F := ⟨_, rfl⟩
      obtain ⟨nF, hnF⟩ : ∃ F, feats.length = F := ⟨_, rfl⟩
      obtain ⟨nS, hnS⟩ : ∃ F, staff.length = F := ⟨_, rfl⟩
      obtain ⟨nT, hnT⟩ : ∃ F, starts.length = F := ⟨_, rfl⟩
      unfold ClassAt at hat
      dsimp only at hat
      rw [hX0, hY1, hX2, hnP, hnF, hnS, hnT] at hat hb1 hX hs1 cC1 cS1
      obtain ⟨z0, z1, z2, z3, z4, z5, z6, z7, z8⟩ := hat
      have CC := hid cC1
      have CS := hid cS1
      have HST := hid hst
      have HK1 := hid (hK.out.next hb1)
      have HX := hid hX
      obtain ⟨y0, y1⟩ := HK1.out.x.cells
      obtain ⟨u0, u1, u2, u3, u4, u5, u6, u7, u8⟩ := hX.cells
      clear hr hX0 hY1 hX2 hnP hnF hnS hnT hst hb1 hX hs1 cC1 cS1 hU hV hK hfb HK0
      go_wp2_with fail
      generalize wr.alloc (.cells #[.string X0, .string Y1, .string X2, .int .i64 len, .slice q.aP nP q.cP, .int .i64 seats, .slice q.aF nF q.cF, .slice q.aS nS q.cS, .slice q.aT nT q.cT] 65) = w2 at CC CS HK1 HX y0 y1 u0 u1 u2 u3 u4 u5 u6 u7 u8 ⊢
      refine CC.out.mono ?_
      rintro e w' ⟨rfl, rfl⟩
      cases U with
      | false =>
        have hst := HST.out
        rw [show (false && V) = false from rfl, if_neg (by simp), List.append_nil] at hst
        have HN2 : Hid (((List.range (i + 1)).filter (attB cs l)).length = n) := hid (by rw [hst]; exact hn.out)
        have HK2 : Hid (KT w (.string X1) (.slice A2 cs.length c2) ((List.range (i + 1)).filter (attB cs l)) (.slice Ar n cr) w2) := hid (by rw [hst]; exact HK1.out)
        clear hst CS HST y0 y1 u0 u1 u2 u3 u4 u5 u6 u7 u8
        go_wp2
        go_roundw
        case rel => exact ⟨i + 1, n, Ar, cr, rfl, by go_num, by omega, HN2, HK2⟩
        case measure => simp [RowKit.intOf]; omega
      | true =>
        go_wp2_with fail
        refine CS.out.mono ?_
        rintro e w3 ⟨rfl, hb3⟩
        have HK3 := hid (HK1.out.next hb3)
        clear hb3 y0 y1 u0 u1 u2 u3 u4 u5 u6 u7 u8 CC CS
        cases V with
        | false =>
          have hst := HST.out
          rw [show (true && false) = false from rfl, if_neg (by simp), List.append_nil] at hst
          have HN2 : Hid (((List.range (i + 1)).filter (attB cs l)).length = n) := hid (by rw [hst]; exact hn.out)
          have HK4 : Hid (KT w (.string X1) (.slice A2 cs.length c2) ((List.range (i + 1)).filter (attB cs l)) (.slice Ar n cr) w3) := hid (by rw [hst]; exact HK3.out)
          clear hst HST
          go_wp2
          go_roundw
          case rel => exact ⟨i + 1, n, Ar, cr, rfl, by go_num, by omega, HN2, HK4⟩
          case measure => simp [RowKit.intOf]; omega
        | true =>
          have hst := HST.out
          rw [show (true && true) = true from rfl, if_pos rfl] at hst
          have hrow := HK3.out.r
          obtain ⟨LA, hLA⟩ : ∃ LA, (List.range i).filter (attB cs l) = LA := ⟨_, rfl⟩
          rw [hLA] at hrow hst
          have hln : LA.length = n := by rw [← hLA]; exact hn.out
          unfold IntRow at hrow
          rw [castL_len, hln] at hrow
          have HROW := hid hrow
          have HST2 := hid hst
          have HLN := hid hln
          have HLA := hid hLA
          have HC3 : Hid (n + 1 ≤ maxLen) := by unfold maxLen; exact hid (by omega)
          have HC4 : Hid ((n + 1) * 8 ≤ 140737488355328) := hid (by omega)
          have HC5 : Hid (∀ o : Obj, w.heap.size + 1 ≤ (w3.alloc o).heap.size) := hid (fun o => by have := HK3.out.x.lt; simp; omega)
          clear hst hrow hln hLA HST
          go_wp2_with (at_builtin; refine wpList_append_own _ rfl _ _ 47 rfl (w.heap.size + 1) 3 i3 (.int .i64 0) 1 8 Tryz.underlying47 hi3 hz3 hs3 hb3 rfl (by decide) _ n (intVals (castL LA)) rfl (World.ownsRow.alloc HROW.out _) ⟨w3.heap.size, 0, none⟩ 1 1 [.int .i64 (i : Int)] rfl rfl (one_new _ _ _) (one_nat _) HC3.out HC4.out (HC5.out _) ?_)
          intro v' w4 hown' hgrow _
          have hg' := grownBy_of_alloc hgrow
          obtain ⟨A6, c6, rfl⟩ := S3.row_slice hown'
          have hrow6 : IntRow w4 (w.heap.size + 1) (.slice A6 (n + 1) c6) (castL ((List.range (i + 1)).filter (attB cs l))) := by
            rw [HST2.out]
            unfold IntRow
            rw [castL_len, List.length_append, HLN.out, castL_app, intVals_app]
            exact hown'
          have HK4 := hid (HK3.out.app hg' hrow6)
          have HN2 : Hid (((List.range (i + 1)).filter (attB cs l)).length = n + 1) := hid (by rw [HST2.out, List.length_append, HLN.out]; rfl)
          clear hown' hgrow hg' hrow6 HC3 HC4 HC5
          go_wp2
          go_roundw
          case rel => exact ⟨i + 1, n + 1, A6, c6, rfl, by go_num, by omega, HN2, HK4⟩
          case measure => simp [RowKit.intOf]; omega
    · have hltz : ¬ (i : Int) < (l.length : Int) := by omega
      have hR : i = l.length := by omega
      have HR : Hid (AttOut (attL cs l) w (.returned (.slice Ar n cr)) wr) := hid ⟨⟨_, rfl, by have := hK.out.r; rw [hR] at this; exact this.mono (by omega)⟩, hK.out.b⟩
      clear hR hK hn HK0
      go_wp2
      go_ret
      exact HR.out
end Go.Proofs.YtpaejkhaiifgdaaGreatDoor.S11

set_option linter.unusedVariables false
namespace Go.Proofs.YtpaejkhaiifgdaaGreatDoor.S11
open Go Go.Proofs Go.RowKit Go.Lib Go.Proofs.YtpaejkhaiifgdaaGreatDoor Go.Proofs.YtpaejkhaiifgdaaGreatDoor.S10

theorem infoPair : (Tryz.prog.info? 61).map (fun i => (i.zero, i.size, i.bytes)) = some (some (.agg #[.int .i64 0, .int .i64 0]), 2, 16) := by kernel_rfl
/-- Pairs that the call owns. -/
def PairRow (w : World) (B : Nat) (v : Value) (l : List StartD) : Prop := w.ownsRow B 61 2 v l.length (startVals l)
def PairOut (l : List StartD) (w : World) (e : Ending) (w' : World) : Prop := (∃ v, e = .returned v ∧ PairRow w' w.heap.size v l) ∧ Below w.heap.size w w'
theorem pair_cells (w : World) (a k : Int) (T : TypeId) : ∀ (j : Nat) (u : Value), (startVs (a, k))[j]? = some u → (w.alloc (.cells #[.int .i64 a, .int .i64 k] T)).cell? ((⟨w.heap.size, 0, none⟩ : Addr).add j) = some u := by
  intro j u h
  rw [Addr.add_lit, Lib.cell_of_heap (heap_alloc_new w _)]
  match j, h with
  | 0, h => simpa [startVs] using h
  | 1, h => simpa [startVs] using h
  | j + 2, h => simp [startVs] at h
theorem pair_one (a k : Int) : ∀ u ∈ startVs (a, k), u.oneCell' = true := by
  intro u hu
  simp [startVs] at hu
  rcases hu with rfl | rfl <;> rfl
/-- What stands while pairs are gathered. -/
structure KQ (w0 : World) (va : Value) (att : List Nat) (L : List StartD) (v : Value) (w : World) : Prop where
  a : IntRow w (w0.heap.size + 1) va (castL att)
  r : PairRow w (w0.heap.size + 1) v L
  b : Below w0.heap.size w0 w
  z : w0.heap.size + 1 ≤ w.heap.size
theorem KQ.app {w0 w w' : World} {va : Value} {att : List Nat} {L L' : List StartD} {v v' : Value} (h : KQ w0 va att L v w) (hg : w.grownBy w' v.ownBlock) (hr : PairRow w' (w0.heap.size + 1) v' L') : KQ w0 va att L' v' w' :=
  ⟨World.ownsRow.kept h.a hg (kinds_ne h.a h.r (by decide)), hr, h.b.grown hg h.b.size (fun k hk => by have := (World.ownsRow.lt h.r k hk).1; omega), Nat.le_trans h.z hg.size⟩
theorem att_cell {w : World} {B : Nat} {A : Option Addr} {n c : Nat} {att : List Nat} (h : IntRow w B (.slice A n c) (castL att)) (hn : n = att.length) {k : Nat} (hk : k < att.length) : ∃ b off, A = some ⟨b, off, none⟩ ∧ ∀ j, ∀ hj : j < att.length, w.cell? ⟨b, off + j, none⟩ = some (.int .i64 (att[j] : Nat)) := by
  obtain ⟨A', c', hv, _, _, hin⟩ := IntRow.intsIn h
  injection hv with e1 _ e3
  subst e1
  rcases hin with h0 | ⟨b, off, hA, _, hc⟩
  · have h1 := castL_len att
    rw [h0] at h1
    simp at h1
    omega
  · refine ⟨b, off, hA, fun j hj => ?_⟩
    exact hc j _ (by simp [castL, hj])
set_option maxHeartbeats 16000000 in
set_option maxRecDepth 100000 in
theorem pairs_any (x : CurrD) (q : CurrA) (A : Option Addr) (l : List ClassD) (c : Nat) (hl : l.length ≤ 40) (hlc : l.length ≤ c) (hc : c ≤ 9223372036854775807) (w : World) (hx : CurrIn w (fun k => k < w.heap.size) x q) (h : ClassesIn w (fun k => k < w.heap.size) A l) :
    Calls Tryz.prog 13 #[currV x q, .slice A l.length c] w (PairOut (pairsM x.2 l) w) := by
  obtain ⟨iP, hiP, hzP, hsP, hbP⟩ := info_parts infoPair
  have hP := pairsM_len x.2 l hl
  have hattl := attL_len x.2 l
  unfold PairOut
  have hb0 := (Below.refl w.heap.size w).alloc (Nat.le_refl _) (.cells #[.string (ba x.1), .slice q.1 x.2.length q.2] 41)
  have hx0 := Box2.new w (.string (ba x.1)) (.slice q.1 x.2.length q.2)
  have cA := hid (fun (W : World) (hb : Below w.heap.size w W) => attended_any x q A l c hl hlc hc W ((hx.below hb).mono (fun k hk => Nat.lt_of_lt_of_le hk hb.size)) ((h.below hb).mono (fun k hk => Nat.lt_of_lt_of_le hk hb.size)))
  have hPe : Hid (pairsOf ((attL x.2 l).drop 0) = pairsM x.2 l) := hid rfl
  obtain ⟨att, hatt⟩ : ∃ att, attL x.2 l = att := ⟨_, rfl⟩
  rw [hatt] at hattl cA hPe
  obtain ⟨P, hPP⟩ : ∃ P, pairsM x.2 l = P := ⟨_, rfl⟩
  rw [hPP] at hP hPe ⊢
  unfold currV at cA ⊢
  obtain ⟨X1, hX1⟩ : ∃ X, ba x.1 = X := ⟨_, rfl⟩
  obtain ⟨CN, hCN⟩ : ∃ F, x.2.length = F := ⟨_, rfl⟩
  rw [hX1, hCN] at cA hb0 hx0 ⊢
  obtain ⟨N, hN⟩ : ∃ F, l.length = F := ⟨_, rfl⟩
  rw [hN] at cA ⊢
  have hatt40 : att.length ≤ 40 := by omega
  have HX0 := hid hx0
  have HB0 := hid hb0
  clear hx0 hb0 hx h hX1 hCN hatt hPP hlc hl hattl hN
  go_enter Tryz.func13, Tryz.ntmps13
  go_wp2_with fail
  generalize World.alloc _ _ = w1 at HX0 HB0 ⊢
  obtain ⟨x0, x1⟩ := HX0.out.cells
  have cA1 := cA.out w1 HB0.out
  unfold AttOut at cA1
  have CA := hid cA1
  clear cA cA1 x0 x1
  refine CA.out.mono ?_
  rintro e w2 ⟨⟨va, rfl, hra⟩, hb2⟩
  obtain ⟨Aa, ca, rfl, hla, hca, _⟩ := hra.intsIn
  rw [castL_len] at hla ⊢
  have hrow2 : IntRow w2 (w.heap.size + 1) (.slice Aa att.length ca) (castL att) := by
    have := hra
    rw [castL_len] at this
    exact this.mono (by have := HX0.out.lt; omega)
  have hk0 : KQ w (.slice Aa att.length ca) att [] (.slice none 0 0) w2 := ⟨hrow2, World.ownsRow_nil _ _ _ _, HB0.out.trans (hb2.mono HB0.out.size), Nat.le_trans HX0.out.lt hb2.size⟩
  have HK0 := hid hk0
  obtain ⟨T, hT⟩ : ∃ T, att.length = T := ⟨_, rfl⟩
  have HT := hid hT
  rw [hT] at hla HK0 hatt40 ⊢
  clear hra hb2 hrow2 hk0 CA hT
  go_wp2
  go_loopw [6, 16] (fun v iv wr => ∃ (n m : Nat) (L : List StartD) (Ar : Option Addr) (cr : Nat), v = .slice Ar m cr ∧ iv = .int .i64 (n : Int) ∧ n ≤ T ∧ Hid (L.length = m) ∧ Hid (L ++ pairsOf (att.drop n) = P) ∧ Hid (KQ w (.slice Aa T ca) att L (.slice Ar m cr) wr)) (fun _ iv _ => T - (RowKit.intOf iv).toNat)
  case atStart => exact ⟨0, 0, [], none, 0, rfl, rfl, Nat.zero_le _, hid rfl, hPe, HK0⟩
  case round =>
    obtain ⟨n, m, L, Ar, cr, rfl, rfl, hn, hLm, hLP, hK⟩ := hrel
    by_cases hlt : n < T
    · have hltz : (n : Int) < (T : Int) := by omega
      have dk : decide (T ≤ n) = false := decide_eq_false (by omega)
      have q1 : IntKind.i64.wrap ((n : Int) + 1) = (n : Int) + 1 := IntWalk.i64_in _ (by omega)
      obtain ⟨b, o, rfl, hcell⟩ := att_cell hK.out.a HT.out.symm (k := n) (by rw [HT.out]; exact hlt)
      have hnl : n < att.length := by rw [HT.out]; exact hlt
      have y0 := hcell n hnl
      obtain ⟨a, ha⟩ : ∃ a, att[n] = a := ⟨_, rfl⟩
      have hst : pairsOf (att.drop n) = (att.drop (n + 1)).map (fun k : Nat => ((a : Int), (k : Int))) ++ pairsOf (att.drop (n + 1)) := by
        rw [List.drop_eq_getElem_cons hnl, ha]; rfl
      rw [ha] at y0
      obtain ⟨o', ho'⟩ : ∃ o', (if ca = n + 1 then o else o + (n + 1)) = o' := ⟨_, rfl⟩
      have hif : (if ca = n + 1 then some (⟨b, o, none⟩ : Addr) else some ⟨b, o + (n + 1), none⟩) = some ⟨b, o', none⟩ := by rw [← ho']; split <;> rfl
      have HIN : Hid (L ++ ((att.drop (n + 1)).drop 0).map (fun k : Nat => ((a : Int), (k : Int))) ++ pairsOf (att.drop (n + 1)) = P) := hid (by rw [List.drop_zero, List.append_assoc, ← hst]; exact hLP.out)
      have HO : Hid (∀ j, n + 1 + j < T → o' + j = o + (n + 1 + j)) := hid (fun j hj => by rw [← ho', if_neg (by omega)]; omega)
      have hcn : n + 1 ≤ ca := by omega
      have hcn2 : n + 1 ≤ T := by omega
      have HLM := hid hLm.out
      clear hst hLP ho' ha hcell HK0
      go_wp2
      have HK1 := hK
      clear hif y0 hK hLm
      go_loopw [6, 26] (fun v jv wr2 => ∃ (j m2 : Nat) (L2 : List StartD) (Ar2 : Option Addr) (cr2 : Nat), v = .slice Ar2 m2 cr2 ∧ jv = .int .i64 (j : Int) ∧ j ≤ T - (n + 1) ∧ Hid (L2.length = m2) ∧ Hid (L2 ++ ((att.drop (n + 1)).drop j).map (fun k : Nat => ((a : Int), (k : Int))) ++ pairsOf (att.drop (n + 1)) = P) ∧ Hid (KQ w (.slice (some ⟨b, o, none⟩) T ca) att L2 (.slice Ar2 m2 cr2) wr2)) (fun _ jv _ => T - (n + 1) - (RowKit.intOf jv).toNat)
      case atStart => exact ⟨0, m, L, Ar, cr, rfl, rfl, Nat.zero_le _, HLM, HIN, HK1⟩
      case round =>
        obtain ⟨j, m2, L2, Ar2, cr2, rfl, rfl, hj, hLm2, hLP2, hK⟩ := hrel
        clear HIN HK1
        by_cases hjt : j < T - (n + 1)
        · have hjz : (j : Int) < ((T - (n + 1) : Nat) : Int) := by omega
          have dk2 : decide (T - (n + 1) ≤ j) = false := decide_eq_false (by omega)
          obtain ⟨b', o2, hA, hcell⟩ := att_cell hK.out.a HT.out.symm (k := n) (by rw [HT.out]; exact hlt)
          injection hA with hA; injection hA with hA1 hA2
          subst hA1 hA2
          have hjl : n + 1 + j < att.length := by rw [HT.out]; omega
          have y1 := hcell (n + 1 + j) hjl
          rw [← HO.out j (by omega)] at y1
          have hst : (att.drop (n + 1)).drop j = att[n + 1 + j] :: (att.drop (n + 1)).drop (j + 1) := by
            rw [List.drop_drop, List.drop_drop, List.drop_eq_getElem_cons hjl]
            rfl
          obtain ⟨k, hk⟩ : ∃ k, att[n + 1 + j] = k := ⟨_, rfl⟩
          rw [hk] at y1 hst
          have hLP3 := hLP2.out
          rw [hst, List.map_cons, List.append_cons] at hLP3
          have HLP3 : Hid ((L2 ++ [((a : Int), (k : Int))]) ++ ((att.drop (n + 1)).drop (j + 1)).map (fun k : Nat => ((a : Int), (k : Int))) ++ pairsOf (att.drop (n + 1)) = P) := hid hLP3
          have hm2 : m2 + 1 ≤ 1600 := by
            have := congrArg List.length hLP3
            simp only [List.length_append, List.length_singleton] at this
            have h2 := hLm2.out
            omega
          have hrow := hK.out.r
          unfold PairRow at hrow
          rw [hLm2.out] at hrow
          have HROW := hid hrow
          have HC3 : Hid (m2 + 1 ≤ maxLen) := by unfold maxLen; exact hid (by omega)
          have HC4 : Hid ((m2 + 1) * 16 ≤ 140737488355328) := hid (by omega)
          have HC5 : Hid (∀ o : Obj, w.heap.size + 1 ≤ (wr.alloc o).heap.size) := hid (fun o => by have := hK.out.z; simp; omega)
          have HPC := hid (pair_cells wr a k 61)
          clear hst hLP2 hLP3 hrow hk hcell hm2
          go_wp2_with (at_builtin; refine wpList_append_own_at _ rfl _ _ 37 rfl (w.heap.size + 1) 61 iP (.agg #[.int .i64 0, .int .i64 0]) 2 16 Tryz.underlying37 hiP hzP hsP hbP rfl (by decide) (.slice Ar2 m2 cr2) m2 (startVals L2) rfl (World.ownsRow.alloc HROW.out _) ⟨wr.heap.size, 0, none⟩ 1 1 (startVs ((a : Int), (k : Int))) rfl rfl HPC.out (pair_one _ _) HC3.out HC4.out (HC5.out _) ?_)
          intro v' w4 hown' hgrow _ hat
          have hg' := grownBy_of_alloc hgrow
          obtain ⟨A6, c6, rfl⟩ := S3.row_slice hown'
          have hrow6 : PairRow w4 (w.heap.size + 1) (.slice A6 (m2 + 1) c6) (L2 ++ [((a : Int), (k : Int))]) := by
            unfold PairRow
            rw [List.length_append, hLm2.out, startVals_app, List.length_singleton]
            simpa [startVals] using hown'
          have HK4 := hid (hK.out.app hg' hrow6)
          have HN2 : Hid ((L2 ++ [((a : Int), (k : Int))]).length = m2 + 1) := hid (by rw [List.length_append, hLm2.out]; rfl)
          clear hown' hgrow hg' hrow6 HC3 HC4 HC5 hat HPC
          go_wp2
          go_roundw
          case rel => exact ⟨j + 1, m2 + 1, _, A6, c6, rfl, by go_num, by omega, HN2, HLP3, HK4⟩
          case measure => simp [RowKit.intOf]; omega
        · have hjz : ¬ (j : Int) < ((T - (n + 1) : Nat) : Int) := by omega
          have HLP3 : Hid (L2 ++ pairsOf (att.drop (n + 1)) = P) := hid (by
            have := hLP2.out
            rw [List.drop_drop, List.drop_of_length_le (by rw [HT.out]; omega)] at this
            simpa using this)
          clear hLP2
          go_wp2
          go_roundw
          case rel => exact ⟨n + 1, m2, L2, Ar2, cr2, rfl, by go_num, by omega, hLm2, HLP3, hK⟩
          case measure => simp [RowKit.intOf]; omega
    · have hltz : ¬ (n : Int) < (T : Int) := by omega
      have hLe : L = P := by
        have := hLP.out
        rw [List.drop_of_length_le (by rw [HT.out]; omega)] at this
        simpa [pairsOf] using this
      have HR : Hid (PairOut P w (.returned (.slice Ar m cr)) wr) := hid ⟨⟨_, rfl, by have := hK.out.r; rw [hLe] at this; exact rowLow this (by omega)⟩, hK.out.b⟩
      clear hLe hLP hK hLm HK0
      go_wp2
      go_ret
      exact HR.out
end Go.Proofs.YtpaejkhaiifgdaaGreatDoor.S11

set_option linter.unusedVariables false
namespace Go.Proofs.YtpaejkhaiifgdaaGreatDoor.S11
open Go Go.Proofs Go.RowKit Go.Lib Go.Proofs.YtpaejkhaiifgdaaGreatDoor Go.Proofs.YtpaejkhaiifgdaaGreatDoor.S10

theorem pairUnder : Tryz.prog.underlying 61 = some (.array 2 3) := by kernel_rfl
theorem pairInt : Tryz.prog.underlying 3 = some (.int .i64) := by kernel_rfl
theorem pairSize (w : World) : (sizeOf 3).run Tryz.prog w = .ok 1 w := by kernel_rfl
theorem pairGuard : Tryz.prog.eqGuardType Tryz.prog.depth 61 = false := by kernel_rfl
theorem run_equalIn_pair (d : Nat) (w : World) (a b a' b' : Int) : (Op.equalIn (d + 2) 61 (.agg #[.int .i64 a, .int .i64 b]) (.agg #[.int .i64 a', .int .i64 b'])).run Tryz.prog w = .ok (a == a' && b == b') w := by
  have p0 : ∀ x y : Int, (part 3 #[.int .i64 x, .int .i64 y] 0).run Tryz.prog w = .ok (.int .i64 x) w := fun x y => by simp [part, isAgg, run_underlying pairInt]
  have p1 : ∀ x y : Int, (part 3 #[.int .i64 x, .int .i64 y] 1).run Tryz.prog w = .ok (.int .i64 y) w := fun x y => by simp [part, isAgg, run_underlying pairInt]
  have pe : ∀ x y : Int, (Op.equalIn (d + 1) 3 (.int .i64 x) (.int .i64 y)).run Tryz.prog w = .ok (x == y) w := fun x y => run_equalIn_int w d 3 .i64 .i64 x y pairInt
  rw [Op.equalIn]
  simp only [Sem.run_bind, run_underlying pairUnder, Result.andThen_ok, pairSize, Std.Legacy.Range.forIn_eq_forIn_range', Std.Legacy.Range.size, Nat.sub_zero, Nat.add_sub_cancel, Nat.div_one]
  rw [show List.range' 0 2 1 = [0, 1] from rfl]
  simp only [List.forIn_cons, List.forIn_nil, Sem.run_bind, Nat.zero_mul, Nat.one_mul, p0, pe, Result.andThen_ok]
  cases h1 : (a == a')
  · simp
  · cases h2 : (b == b') <;> simp [p1, pe, h2]
theorem run_neq_pair (w : World) (a b a' b' : Int) : (binOp .neq 61 (.agg #[.int .i64 a, .int .i64 b]) (.agg #[.int .i64 a', .int .i64 b'])).run Tryz.prog w = .ok (.bool (!(a == a' && b == b'))) w := by
  rw [run_neq_struct, run_equalIn_pair 9998]
  rfl
theorem run_guard_pair (w : World) (op : BinOp) (x y : Operand) (xs ys : Array Value) : (eqGuard op 61 x y (.agg xs) (.agg ys)).run Tryz.prog w = .ok () w := run_eqGuard_agg w op _ x y xs ys pairGuard
end Go.Proofs.YtpaejkhaiifgdaaGreatDoor.S11

