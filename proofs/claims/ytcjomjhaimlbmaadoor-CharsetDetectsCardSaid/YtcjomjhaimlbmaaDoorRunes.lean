/-
  What the conversions between strings and runes give, in the words of the plain lemmas; what the reference's Proper returns. No conditions.
-/
import Derived.Test.YtcjomjhaimlbmaaDoorMem
import Derived.Test.YtcjomjhaimlbmaaDoorProg
import Derived.Lib.Hide
set_option linter.unusedVariables false
namespace Go.Proofs.YtcjomjhaimlbmaaDoor
open Go Go.Proofs Go.RowKit Go.Lib

theorem ofNat_toUInt8 (n : Nat) : UInt8.ofNat n = n.toUInt8 := rfl
theorem encode_encN (r : Nat) : Utf8.encode (r : Int) = ⟨(encN r).toArray⟩ := by
  have hv : ∀ b : Bool, (ValidR r ↔ b = true) → Utf8.valid (r : Int) = b := by
    intro b hb
    unfold ValidR at hb
    unfold Utf8.valid
    rw [Bool.eq_iff_iff, ← hb]
    simp only [Bool.or_eq_true, Bool.and_eq_true, decide_eq_true_eq]
    omega
  unfold Utf8.encode encN encodeRune
  by_cases h : ValidR r
  · rw [hv true ⟨fun _ => rfl, fun _ => h⟩]
    simp only [if_true, Int.toNat_natCast]
    unfold ValidR at h
    by_cases h1 : r ≤ 127
    · rw [encodeRuneZ_one (by omega) (by omega), if_pos (by omega)]
      simp
    · by_cases h2 : r ≤ 2047
      · rw [encodeRuneZ_two (by omega) (by omega), if_neg (by omega), if_pos (by omega)]
        have e0 : ((192 + (r : Int) / 64)).toNat = 192 + r / 64 := by omega
        have e1 : ((128 + (r : Int) % 64)).toNat = 128 + r % 64 := by omega
        simp only [List.map_cons, List.map_nil, e0, e1]
      · by_cases h3 : r ≤ 65535
        · rw [encodeRuneZ_three (by omega), if_neg (by omega), if_neg (by omega), if_pos (by omega)]
          have e0 : ((224 + (r : Int) / 4096)).toNat = 224 + r / 4096 := by omega
          have e1 : ((128 + (r : Int) / 64 % 64)).toNat = 128 + r / 64 % 64 := by omega
          have e2 : ((128 + (r : Int) % 64)).toNat = 128 + r % 64 := by omega
          simp only [List.map_cons, List.map_nil, e0, e1, e2]
        · rw [encodeRuneZ_four (by omega) (by omega), if_neg (by omega), if_neg (by omega), if_neg (by omega)]
          have e0 : ((240 + (r : Int) / 262144)).toNat = 240 + r / 262144 := by omega
          have e1 : ((128 + (r : Int) / 4096 % 64)).toNat = 128 + r / 4096 % 64 := by omega
          have e2 : ((128 + (r : Int) / 64 % 64)).toNat = 128 + r / 64 % 64 := by omega
          have e3 : ((128 + (r : Int) % 64)).toNat = 128 + r % 64 := by omega
          simp only [List.map_cons, List.map_nil, e0, e1, e2, e3]
  · rw [hv false ⟨fun h' => absurd h' h, fun h' => by cases h'⟩]
    unfold ValidR at h
    rw [encodeRuneZ_bad (by omega)]
    simp only [Bool.false_eq_true, if_false]
    decide

theorem runesBytes_flat : ∀ (rs : List Nat) (a : List UInt8), (rs.map fun r : Nat => (r : Int)).foldl (fun r n => r ++ Utf8.encode n) (⟨a.toArray⟩ : ByteArray) = ⟨(a ++ rs.flatMap encN).toArray⟩
  | [], a => by simp
  | r :: rs, a => by
    simp only [List.map_cons, List.foldl_cons, List.flatMap_cons]
    rw [encode_encN]
    have e : (⟨a.toArray⟩ : ByteArray) ++ (⟨(encN r).toArray⟩ : ByteArray) = ⟨(a ++ encN r).toArray⟩ := by
      apply ByteArray.ext
      simp
    rw [e, runesBytes_flat rs (a ++ encN r), List.append_assoc]
theorem runesBytes_text (l : List UInt8) : runesBytes ((runesL l).map fun r : Nat => (r : Int)) = ⟨(textU l).toArray⟩ := by
  unfold runesBytes
  have := runesBytes_flat (runesL l) []
  rw [List.nil_append, ← textU_runes] at this
  exact this

/-- The runes of a string, as cells. -/
def runeVals (l : List UInt8) : List Value := (runesL l).map fun r : Nat => Value.int .i32 (r : Int)
theorem runeVals_ints (l : List UInt8) : runeVals l = ((runesL l).map fun r : Nat => (r : Int)).map (Value.int .i32) := by
  unfold runeVals
  rw [List.map_map]
  rfl
theorem runesFrom_toks (s : ByteArray) : ∀ (bound i p : Nat) (acc : Array Value), s.size - i ≤ bound → Conv.runesFrom s bound i acc = acc ++ ((toks p (s.data.toList.drop i)).map fun t : Tok => Value.int .i32 (t.rune : Int)).toArray
  | 0, i, p, acc, h => by
    rw [List.drop_of_length_le (by rw [← Lib.size_eq]; omega)]
    simp [Conv.runesFrom, toks_nil]
  | bound + 1, i, p, acc, h => by
    unfold Conv.runesFrom
    by_cases hi : i < s.size
    · have hne : s.data.toList.drop i ≠ [] := by
        intro e
        have := congrArg List.length e
        rw [List.length_drop, ← Lib.size_eq] at this
        simp at this
        omega
      have hw := decodeL_width (s.data.toList.drop i)
      rw [decodeL_drop] at hw
      rw [if_pos hi, toks_step p _ hne, decodeL_drop]
      dsimp only
      rw [runesFrom_toks s bound (i + (Utf8.decode s i).2) (p + (Utf8.decode s i).2) _ (by omega), List.drop_drop]
      simp
    · rw [if_neg hi, List.drop_of_length_le (by rw [← Lib.size_eq]; omega)]
      simp [toks_nil]
theorem runesFrom_vals (s : ByteArray) : Conv.runesFrom s s.size 0 #[] = (runeVals s.data.toList).toArray := by
  rw [runesFrom_toks s s.size 0 0 #[] (by omega)]
  unfold runeVals runesL
  simp

section
variable {P : Program}
/-- '[]rune(s)', whatever its length. -/
theorem run_runes (w : World) (src dst e : TypeId) (s : ByteArray) (hs : P.underlying src = some .string) (hd : P.underlying dst = some (.slice e)) (he : P.underlying e = some (.int .i32)) :
    (Go.convert src dst (.string s)).run P w = .ok (.slice (some ⟨w.heap.size, 0, none⟩) (runesL s.data.toList).length (grownCap w (runesL s.data.toList).length 0 e))
      (w.drew.alloc (.cells ((runeVals s.data.toList).toArray ++ Array.replicate (grownCap w (runesL s.data.toList).length 0 e - (runesL s.data.toList).length) (.int .i32 0)) e)) := by
  have hl : (runeVals s.data.toList).length = (runesL s.data.toList).length := by unfold runeVals; simp
  simp [Go.convert, run_underlying hs, run_underlying hd, run_underlying he, Conv.stringToRunes, Question.forced, newRow, grownCap, runesFrom_vals, hl]
/-- 'string([]rune(s))', the runes in their new row. -/
theorem run_string_runes (w : World) (src dst e : TypeId) (a cap : Nat) (l : List UInt8) (hs : P.underlying src = some (.slice e)) (he : P.underlying e = some (.int .i32)) (hd : P.underlying dst = some .string)
    (hc : ∀ j u, (runeVals l)[j]? = some u → w.cell? ⟨a, j, none⟩ = some u) :
    (Go.convert src dst (.slice (some ⟨a, 0, none⟩) (runesL l).length cap)).run P w = .ok (.string ⟨(textU l).toArray⟩) w := by
  have h := run_convert_runes (P := P) w src dst e ⟨a, 0, none⟩ (runesL l).length cap ((runesL l).map fun r : Nat => (r : Int)) (by simp) hs he hd (fun j hj => by
    rw [Addr.add_lit, Nat.zero_add]
    apply hc
    rw [runeVals_ints, List.getElem?_map, List.getElem?_eq_getElem hj]
    simp [List.getD, List.getElem?_eq_getElem hj])
  rw [h, List.take_of_length_le (by simp), runesBytes_text]
theorem cell_runes (w : World) (e : TypeId) (l : List UInt8) (m : Nat) (j : Nat) (u : Value) (h : (runeVals l)[j]? = some u) :
    (w.alloc (.cells ((runeVals l).toArray ++ Array.replicate m (.int .i32 0)) e)).cell? ⟨w.heap.size, j, none⟩ = some u := by
  have hj : j < (runeVals l).length := (List.getElem?_eq_some_iff.1 h).1
  have hh : (w.alloc (.cells ((runeVals l).toArray ++ Array.replicate m (.int .i32 0)) e)).heap[w.heap.size]? = some (.cells ((runeVals l).toArray ++ Array.replicate m (.int .i32 0)) e) := heap_alloc_new w _
  rw [Lib.cell_of_heap hh, Array.getElem?_append_left (by simpa using hj)]
  simpa using h
end

/-- What Proper returns. -/
def properB (l : List UInt8) : Bool := textU l == l

set_option maxHeartbeats 1000000 in
theorem proper_any (s : ByteArray) (w : World) : Calls Tryd.prog 17 #[.string s] w fun e w' => e = .returned (.bool (properB s.data.toList)) ∧ Below w.heap.size w w' := by
  obtain ⟨C, hC⟩ : ∃ C, (runeVals s.data.toList).toArray ++ Array.replicate (grownCap w (runesL s.data.toList).length 0 21 - (runesL s.data.toList).length) (.int .i32 0) = C := ⟨_, rfl⟩
  have k1 := run_runes (P := Tryd.prog) w 9 48 21 s Tryd.underlying9 Tryd.underlying48 Tryd.underlying21
  have hcell : ∀ j u, (runeVals s.data.toList)[j]? = some u → ((w.alloc (.cells C 21)).drew).cell? ⟨w.heap.size, j, none⟩ = some u := fun j u h => by rw [← hC]; exact cell_runes w 21 _ _ j u h
  rw [hC, show w.drew.alloc (.cells C 21) = (w.alloc (.cells C 21)).drew from rfl] at k1
  have k2 := run_string_runes (P := Tryd.prog) ((w.alloc (.cells C 21)).drew) 48 9 21 w.heap.size (grownCap w (runesL s.data.toList).length 0 21) s.data.toList Tryd.underlying48 Tryd.underlying21 Tryd.underlying9 hcell
  clear hcell hC
  obtain ⟨N, hN⟩ : ∃ N, (runesL s.data.toList).length = N := ⟨_, rfl⟩
  obtain ⟨G, hG⟩ : ∃ G, grownCap w (runesL s.data.toList).length 0 21 = G := ⟨_, rfl⟩
  rw [hG, hN] at k1 k2
  clear hG hN
  go_enter Tryd.func17, Tryd.ntmps17
  go_wp2
  go_ret
  refine ⟨?_, ((Below.refl _ w).alloc (Nat.le_refl _) _).drew⟩
  unfold properB
  rw [← Lib.toList_data]
  rfl
end Go.Proofs.YtcjomjhaimlbmaaDoor
