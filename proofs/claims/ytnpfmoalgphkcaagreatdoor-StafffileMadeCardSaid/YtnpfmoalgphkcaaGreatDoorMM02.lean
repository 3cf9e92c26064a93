/-
  The names of sets: the program's setOf and nameOf. Conditions: the table of names holds what its text lays; the number of weeks is from 1 to 20.
-/
import Derived.Test.YtnpfmoalgphkcaaGreatDoorMM01
import Derived.Test.YtnpfmoalgphkcaaGreatDoorProg
import Derived.WalkKit
import Derived.WalkSpells
import Derived.WalkLawsBesides
import Derived.Lib.Hide
import Derived.Deep.QuietTactic
import Derived.BigQuiet
import Derived.Laws.Rows
import Derived.OwnWalk
import Derived.Lib.BufferWrite
import Derived.Lib.UnsafeStr
import Derived.Laws.IdiomStrings
import Derived.Laws.BytesArg
import Derived.Laws.BytesString
import Derived.Laws.OwnMore
import Derived.Lib.IndexLaws
import Derived.Lib.ItoaNum
import Derived.Lib.Atoi
import Derived.Laws.BitsAllLaws
import Derived.Laws.BitsLemmas
import Derived.Deep.MidRow
set_option linter.unusedVariables false
namespace Go.Proofs.YtnpfmoalgphkcaaGreatDoor
open Go Go.Proofs Go.RowKit Go.Lib
def nameCells : List Value := (nv 0).toList ++ (nv 1).toList ++ (nv 2).toList ++ (nv 3).toList ++ (nv 4).toList
def Names (w : World) : Prop := ∀ (j : Nat) (v : Value), nameCells[j]? = some v → w.cell? ⟨4, j, none⟩ = some v
def Words (w : World) : Prop := ∀ k, k < 5 → w.cell? ⟨3, k, none⟩ = some (.string ⟨(wordS k).toArray⟩)
theorem kindOf_some {k : Nat} {x : Str} (hk : k < 5) (h : wordS k = x) : kindOf x = some k := by
  subst h
  rcases (show k = 0 ∨ k = 1 ∨ k = 2 ∨ k = 3 ∨ k = 4 by omega) with rfl | rfl | rfl | rfl | rfl <;> decide
theorem kindOf_none {x : Str} (h : ∀ i, i < 5 → wordS i ≠ x) : kindOf x = none := by
  unfold kindOf
  rw [List.find?_eq_none]
  intro k hk
  simp only [decide_eq_true_eq]
  exact h k (List.mem_range.1 hk)
def setOfM (x : Str) (n : Nat) : Nat × Bool := match kindOf x with | some k => (nmM k n, true) | none => (0, false)
theorem tl_eq (s : ByteArray) : s.toList = lst s := Lib.toList_data s
theorem idx0 (w : World) : (Instr.index 163 (Value.agg #[Value.string { data := #[97, 108, 108] }, Value.int IntKind.i64 1048575, Value.bool true, Value.bool true, Value.string { data := #[111, 100, 100] }, Value.int IntKind.i64 349525, Value.bool true, Value.bool true, Value.string { data := #[101, 118, 101, 110] }, Value.int IntKind.i64 699050, Value.bool true, Value.bool true, Value.string { data := #[102, 105, 114, 115, 116] }, Value.int IntKind.i64 1048575, Value.bool true, Value.bool false, Value.string { data := #[115, 101, 99, 111, 110, 100] }, Value.int IntKind.i64 1048575, Value.bool false, Value.bool true]) (Value.int IntKind.i64 0)).run Tryz.prog w = .ok (Value.agg #[Value.string { data := #[97, 108, 108] }, Value.int IntKind.i64 1048575, Value.bool true, Value.bool true]) w := by kernel_rfl
theorem idx1 (w : World) : (Instr.index 163 (Value.agg #[Value.string { data := #[97, 108, 108] }, Value.int IntKind.i64 1048575, Value.bool true, Value.bool true, Value.string { data := #[111, 100, 100] }, Value.int IntKind.i64 349525, Value.bool true, Value.bool true, Value.string { data := #[101, 118, 101, 110] }, Value.int IntKind.i64 699050, Value.bool true, Value.bool true, Value.string { data := #[102, 105, 114, 115, 116] }, Value.int IntKind.i64 1048575, Value.bool true, Value.bool false, Value.string { data := #[115, 101, 99, 111, 110, 100] }, Value.int IntKind.i64 1048575, Value.bool false, Value.bool true]) (Value.int IntKind.i64 1)).run Tryz.prog w = .ok (Value.agg #[Value.string { data := #[111, 100, 100] }, Value.int IntKind.i64 349525, Value.bool true, Value.bool true]) w := by kernel_rfl
theorem idx2 (w : World) : (Instr.index 163 (Value.agg #[Value.string { data := #[97, 108, 108] }, Value.int IntKind.i64 1048575, Value.bool true, Value.bool true, Value.string { data := #[111, 100, 100] }, Value.int IntKind.i64 349525, Value.bool true, Value.bool true, Value.string { data := #[101, 118, 101, 110] }, Value.int IntKind.i64 699050, Value.bool true, Value.bool true, Value.string { data := #[102, 105, 114, 115, 116] }, Value.int IntKind.i64 1048575, Value.bool true, Value.bool false, Value.string { data := #[115, 101, 99, 111, 110, 100] }, Value.int IntKind.i64 1048575, Value.bool false, Value.bool true]) (Value.int IntKind.i64 2)).run Tryz.prog w = .ok (Value.agg #[Value.string { data := #[101, 118, 101, 110] }, Value.int IntKind.i64 699050, Value.bool true, Value.bool true]) w := by kernel_rfl
theorem idx3 (w : World) : (Instr.index 163 (Value.agg #[Value.string { data := #[97, 108, 108] }, Value.int IntKind.i64 1048575, Value.bool true, Value.bool true, Value.string { data := #[111, 100, 100] }, Value.int IntKind.i64 349525, Value.bool true, Value.bool true, Value.string { data := #[101, 118, 101, 110] }, Value.int IntKind.i64 699050, Value.bool true, Value.bool true, Value.string { data := #[102, 105, 114, 115, 116] }, Value.int IntKind.i64 1048575, Value.bool true, Value.bool false, Value.string { data := #[115, 101, 99, 111, 110, 100] }, Value.int IntKind.i64 1048575, Value.bool false, Value.bool true]) (Value.int IntKind.i64 3)).run Tryz.prog w = .ok (Value.agg #[Value.string { data := #[102, 105, 114, 115, 116] }, Value.int IntKind.i64 1048575, Value.bool true, Value.bool false]) w := by kernel_rfl
theorem idx4 (w : World) : (Instr.index 163 (Value.agg #[Value.string { data := #[97, 108, 108] }, Value.int IntKind.i64 1048575, Value.bool true, Value.bool true, Value.string { data := #[111, 100, 100] }, Value.int IntKind.i64 349525, Value.bool true, Value.bool true, Value.string { data := #[101, 118, 101, 110] }, Value.int IntKind.i64 699050, Value.bool true, Value.bool true, Value.string { data := #[102, 105, 114, 115, 116] }, Value.int IntKind.i64 1048575, Value.bool true, Value.bool false, Value.string { data := #[115, 101, 99, 111, 110, 100] }, Value.int IntKind.i64 1048575, Value.bool false, Value.bool true]) (Value.int IntKind.i64 4)).run Tryz.prog w = .ok (Value.agg #[Value.string { data := #[115, 101, 99, 111, 110, 100] }, Value.int IntKind.i64 1048575, Value.bool false, Value.bool true]) w := by kernel_rfl
def NA : Array Value := #[Value.string { data := #[97, 108, 108] }, Value.int IntKind.i64 1048575, Value.bool true, Value.bool true, Value.string { data := #[111, 100, 100] }, Value.int IntKind.i64 349525, Value.bool true, Value.bool true, Value.string { data := #[101, 118, 101, 110] }, Value.int IntKind.i64 699050, Value.bool true, Value.bool true, Value.string { data := #[102, 105, 114, 115, 116] }, Value.int IntKind.i64 1048575, Value.bool true, Value.bool false, Value.string { data := #[115, 101, 99, 111, 110, 100] }, Value.int IntKind.i64 1048575, Value.bool false, Value.bool true]
theorem idx_any (k : Nat) (hk : k < 5) : ∃ (T : ByteArray) (m : Int) (a b : Bool), nv k = #[.string T, .int .i64 m, .bool a, .bool b] ∧ lst T = wordS k ∧
    ∀ w, (Instr.index 163 (Value.agg NA) (Value.int IntKind.i64 (k : Int))).run Tryz.prog w = .ok (Value.agg #[.string T, .int .i64 m, .bool a, .bool b]) w := by
  rcases (show k = 0 ∨ k = 1 ∨ k = 2 ∨ k = 3 ∨ k = 4 by omega) with rfl | rfl | rfl | rfl | rfl
  · exact ⟨_, _, _, _, rfl, rfl, idx0⟩
  · exact ⟨_, _, _, _, rfl, rfl, idx1⟩
  · exact ⟨_, _, _, _, rfl, rfl, idx2⟩
  · exact ⟨_, _, _, _, rfl, rfl, idx3⟩
  · exact ⟨_, _, _, _, rfl, rfl, idx4⟩
theorem toListEq {T s : ByteArray} (h : lst T = lst s) : (T.toList == s.toList) = true := by rw [tl_eq, tl_eq]; simpa using h
theorem toListNe {T s : ByteArray} (h : ¬ lst T = lst s) : (T.toList == s.toList) = false := by rw [tl_eq, tl_eq]; simpa using h
def Entry (AR : Array Value) : Prop := ∀ k, k < 5 → ∃ (T : ByteArray) (m : Int) (a b : Bool), nv k = #[.string T, .int .i64 m, .bool a, .bool b] ∧ lst T = wordS k ∧
    ∀ w, (Instr.index 163 (Value.agg AR) (Value.int IntKind.i64 (k : Int))).run Tryz.prog w = .ok (Value.agg #[.string T, .int .i64 m, .bool a, .bool b]) w
theorem load_names {w : World} (hT : Names w) : ∃ L : List Value, Hid (Entry L.toArray) ∧ w.rangeAt 4 0 L ∧ (Tryz.prog.info? 163).map (·.size) = some L.length :=
  ⟨nameCells, hid idx_any, fun j v h => by rw [Nat.zero_add]; exact hT j v h, by kernel_rfl⟩
set_option maxHeartbeats 4000000 in
set_option maxRecDepth 100000 in
theorem setOf_any (s : ByteArray) (n : Nat) (h1 : 1 ≤ n) (h2 : n ≤ 20) (w : World) (hT : Names w) :
    Calls Tryz.prog 142 #[.string s, .int .i64 (n : Int)] w fun e w' => e = .returned (.tuple #[.int .i64 ((setOfM (lst s) n).1 : Nat), .bool (setOfM (lst s) n).2]) ∧ Below w.heap.size w w' := by
  obtain ⟨R, hR⟩ : ∃ R, setOfM (lst s) n = R := ⟨_, rfl⟩
  have HR := hid hR
  obtain ⟨L, hX, hL1, hL2⟩ := load_names hT
  have HL1 := hid hL1
  have HL2 := hid hL2
  clear hL1 hL2
  have cI := hid (fun k hk w => in_any k n hk h1 h2 w)
  rw [hR]
  clear hR hT
  go_enter Tryz.func142, Tryz.ntmps142
  go_wp2_with (refine wpList_load_mid rfl 163 _ rfl 4 0 rfl L _ HL1.out Tryz.underlying163 rfl HL2.out ?_)
  generalize L.toArray = AR at hX ⊢
  clear HL1 HL2
  go_loopw [9] (fun iv wr => ∃ k : Nat, iv = .int .i64 (k : Int) ∧ k ≤ 5 ∧ Hid (∀ i, i < k → wordS i ≠ lst s) ∧ Hid (Below w.heap.size w wr)) (fun iv _ => 5 - (RowKit.intOf iv).toNat)
  case atStart => exact ⟨0, rfl, by omega, hid (fun i hi => absurd hi (by omega)), hid (Below.refl _ _)⟩
  case round =>
    obtain ⟨k, rfl, hk, hne, hB⟩ := hrel
    by_cases hlt : k < 5
    · have hltz : (k : Int) < 5 := by omega
      have HB2 : Hid (∀ o : Obj, Below w.heap.size w (wr.alloc o)) := hid (fun o => hB.out.alloc hB.out.size o)
      obtain ⟨T, m, a, b, hnv, hTw, hix⟩ := hX.out k hlt
      have HN := hid hnv
      have HTW := hid hTw
      clear hnv hTw
      by_cases hw : lst T = lst s
      · have hr : R = (nmM k n, true) := by
          rw [← HR.out]
          unfold setOfM
          rw [kindOf_some hlt (HTW.out.symm.trans hw)]
        subst hr
        have he := toListEq hw
        have cJ := hid (fun w => by have := cI.out k hlt w; rw [HN.out] at this; exact this)
        clear hw HR
        go_wp2_with fail
        refine (cJ.out _).mono ?_
        rintro e w3 ⟨rfl, hb3⟩
        have HB3 := hid ((HB2.out _).trans (hb3.mono (HB2.out _).size))
        clear hb3
        go_wp2
        go_ret2
        exact ⟨rfl, HB3.out⟩
      · have hnx : Hid (∀ i, i < k + 1 → wordS i ≠ lst s) := hid (fun i hi => by
          rcases Nat.lt_or_ge i k with h | h
          · exact hne.out i h
          · obtain rfl : i = k := by omega
            exact fun e => hw (HTW.out.trans e))
        have he := toListNe hw
        clear hw
        go_wp2
        go_roundw
        case rel => exact ⟨k + 1, by go_num, by omega, hnx, hid (HB2.out _)⟩
        case measure => simp [RowKit.intOf]; omega
    · obtain rfl : k = 5 := by omega
      have hr : R = (0, false) := by
        rw [← HR.out]
        unfold setOfM
        rw [kindOf_none hne.out]
      subst hr
      go_wp2
      go_ret2
      exact ⟨rfl, hB.out⟩
theorem find_first {p : Nat → Bool} {k : Nat} (hk : k < 5) (h : p k = true) (hn : ∀ i, i < k → p i = false) : (List.range 5).find? p = some k := by
  rcases (show k = 0 ∨ k = 1 ∨ k = 2 ∨ k = 3 ∨ k = 4 by omega) with rfl | rfl | rfl | rfl | rfl
  · simp [List.range, List.range.loop, h]
  · simp [List.range, List.range.loop, h, hn 0 (by omega)]
  · simp [List.range, List.range.loop, h, hn 0 (by omega), hn 1 (by omega)]
  · simp [List.range, List.range.loop, h, hn 0 (by omega), hn 1 (by omega), hn 2 (by omega)]
  · simp [List.range, List.range.loop, h, hn 0 (by omega), hn 1 (by omega), hn 2 (by omega), hn 3 (by omega)]
theorem nameK_some {s n k : Nat} (hk : k < 5) (h : nmM k n = s) (hn : ∀ i, i < k → nmM i n ≠ s) : nameK s n = some k :=
  find_first hk (decide_eq_true h) (fun i hi => decide_eq_false (hn i hi))
theorem nameK_none {s n : Nat} (hn : ∀ i, i < 5 → nmM i n ≠ s) : nameK s n = none := by
  unfold nameK
  rw [List.find?_eq_none]
  intro k hk
  simp only [decide_eq_true_eq]
  exact hn k (List.mem_range.1 hk)
def nameOfM (s n : Nat) : Str × Bool := match nameK s n with | some k => (wordS k, true) | none => ([], false)
theorem ba_of {T : ByteArray} {l : Str} (h : lst T = l) : T = ba l := by rw [← h, ba_lst]
set_option maxHeartbeats 4000000 in
set_option maxRecDepth 100000 in
theorem nameOf_any (s n : Nat) (h1 : 1 ≤ n) (h2 : n ≤ 20) (w : World) (hT : Names w) :
    Calls Tryz.prog 118 #[.int .i64 (s : Int), .int .i64 (n : Int)] w fun e w' => e = .returned (.tuple #[.string (ba (nameOfM s n).1), .bool (nameOfM s n).2]) ∧ Below w.heap.size w w' := by
  obtain ⟨R, hR⟩ : ∃ R, nameOfM s n = R := ⟨_, rfl⟩
  have HR := hid hR
  obtain ⟨L, hX, hL1, hL2⟩ := load_names hT
  have HL1 := hid hL1
  have HL2 := hid hL2
  clear hL1 hL2
  have cI := hid (fun k hk w => in_any k n hk h1 h2 w)
  rw [hR]
  clear hR hT
  go_enter Tryz.func118, Tryz.ntmps118
  go_wp2_with (refine wpList_load_mid rfl 163 _ rfl 4 0 rfl L _ HL1.out Tryz.underlying163 rfl HL2.out ?_)
  generalize L.toArray = AR at hX ⊢
  clear HL1 HL2
  go_loopw [9] (fun iv wr => ∃ k : Nat, iv = .int .i64 (k : Int) ∧ k ≤ 5 ∧ Hid (∀ i, i < k → nmM i n ≠ s) ∧ Hid (Below w.heap.size w wr)) (fun iv _ => 5 - (RowKit.intOf iv).toNat)
  case atStart => exact ⟨0, rfl, by omega, hid (fun i hi => absurd hi (by omega)), hid (Below.refl _ _)⟩
  case round =>
    obtain ⟨k, rfl, hk, hne, hB⟩ := hrel
    by_cases hlt : k < 5
    · have hltz : (k : Int) < 5 := by omega
      have HB2 : Hid (∀ o : Obj, Below w.heap.size w (wr.alloc o)) := hid (fun o => hB.out.alloc hB.out.size o)
      obtain ⟨T, m, a, b, hnv, hTw, hix⟩ := hX.out k hlt
      have HN := hid hnv
      have HTW := hid (ba_of hTw)
      have cJ := hid (fun w => by have := cI.out k hlt w; rw [HN.out] at this; exact this)
      clear hnv hTw
      by_cases hw : nmM k n = s
      · have hr : R = (wordS k, true) := by
          rw [← HR.out]
          unfold nameOfM
          rw [nameK_some hlt hw hne.out]
        subst hr
        subst hw
        have he : (((nmM k n : Nat) : Int) == ((nmM k n : Nat) : Int)) = true := by simp
        clear HR
        obtain ⟨W1, hW1⟩ : ∃ W1, wr.alloc (.cells #[.string T, .int .i64 m, .bool a, .bool b] 162) = W1 := ⟨_, rfl⟩
        have HB3 : Hid (Below w.heap.size w W1) := hid (by rw [← hW1]; exact HB2.out _)
        have HC : Hid (W1.heap[wr.heap.size]? = some (.cells #[.string T, .int .i64 m, .bool a, .bool b] 162 (0, 0))) := hid (by rw [← hW1]; exact heap_alloc_new wr _)
        have HW1 := hid hW1
        clear hW1
        go_wp2_with fail
        rw [HW1.out]
        refine (cJ.out _).mono ?_
        rintro e w3 ⟨rfl, hb3⟩
        have HB4 := hid (HB3.out.trans (hb3.mono HB3.out.size))
        have hc3 : w3.cell? ⟨wr.heap.size, 0, none⟩ = some (.string T) := by
          rw [Lib.cell_of_heap ((hb3.block _ (Array.getElem?_eq_some_iff.1 HC.out).1).trans HC.out)]
          rfl
        clear hb3
        go_wp2
        go_ret2
        rw [← HTW.out]
        exact ⟨rfl, HB4.out⟩
      · have hnx : Hid (∀ i, i < k + 1 → nmM i n ≠ s) := hid (fun i hi => by
          rcases Nat.lt_or_ge i k with h | h
          · exact hne.out i h
          · obtain rfl : i = k := by omega
            exact hw)
        have he : (((nmM k n : Nat) : Int) == (s : Int)) = false := by simp; omega
        clear hw
        go_wp2_with fail
        refine (cJ.out _).mono ?_
        rintro e w3 ⟨rfl, hb3⟩
        have HB3 := hid ((HB2.out _).trans (hb3.mono (HB2.out _).size))
        clear hb3
        go_wp2
        go_roundw
        case rel => exact ⟨k + 1, by go_num, by omega, hnx, HB3⟩
        case measure => simp [RowKit.intOf]; omega
    · obtain rfl : k = 5 := by omega
      have hr : R = ([], false) := by
        rw [← HR.out]
        unfold nameOfM
        rw [nameK_none hne.out]
      subst hr
      go_wp2
      go_ret2
      exact ⟨rfl, hB.out⟩
end Go.Proofs.YtnpfmoalgphkcaaGreatDoor
