/-
  The reference's written: a number in decimal with a width. Conditions: the number is below ten to the seventeenth, the width at most 16.
-/
import Derived.Test.YtldnbneblpebiaaGreatDoorWide
import Derived.Test.YtldnbneblpebiaaGreatDoorText
import Derived.Test.YtldnbneblpebiaaGreatDoorCheck
import Derived.Laws.OwnMore
set_option linter.unusedVariables false
namespace Go.Proofs.YtldnbneblpebiaaGreatDoor
open Go Go.Proofs Go.RowKit Go.Lib

theorem WideAt.short {n u : Nat} {s : Str} (h : WideAt n u s) : s.length ≤ (decDigits n).length := by
  rcases h with ⟨rfl, rfl⟩ | ⟨hs, ⟨h0, h1⟩ | ⟨h0, h1⟩⟩
  · simp
  · rw [h1]; exact Nat.le_refl _
  · have := congrArg List.length h1
    rw [List.length_append] at this
    omega
/-- A slice's length. -/
def vLen : Value → Nat | .slice _ n _ => n | _ => 0
def BRow (w : World) (B : Nat) (v : Value) (l : List UInt8) : Prop := w.ownsRow B 5 1 v l.length (byteCells l)
theorem byte_one (l : List UInt8) : ∀ u ∈ byteCells l, u.oneCell' = true := by
  intro u hu
  obtain ⟨x, _, rfl⟩ := List.mem_map.1 hu
  exact one_one .u8 (x.toNat : Int) _ (List.mem_singleton.2 rfl)
theorem one48_val (u : Nat) : ((one48 (u % 10)).toNat : Int) = 48 + (u : Int) % 10 := by
  have hd : u % 10 < 10 := Nat.mod_lt _ (by omega)
  unfold one48
  rw [ofNat_val hd]
  omega
theorem BRow.some {w : World} {B : Nat} {v : Value} {l : List UInt8} (h : BRow w B v l) (hl : l ≠ []) : ∃ g cap, v = .slice (some ⟨g, 0, none⟩) l.length cap ∧ B ≤ g ∧ ∀ j u, (byteCells l)[j]? = some u → w.cell? ((⟨g, 0, none⟩ : Addr).add j) = some u := by
  have h' := h
  rcases h.2 with ⟨_, h0⟩ | ⟨g, cap, cur, rfl, hB, _⟩
  · exact absurd (List.eq_nil_of_length_eq_zero h0) hl
  · exact ⟨g, cap, rfl, hB, World.ownsRow.cells h' rfl⟩
theorem new_byte (w : World) (B : Nat) (hB : B ≤ w.heap.size) (z : Value) : (w.alloc (.cells #[z] 5)).ownsRow B 5 1 (.slice (some ⟨w.heap.size, 0, none⟩) 1 1) 1 [z] :=
  World.ownsRow_lit w #[z] 1 hB (by decide) rfl
theorem new_below (w : World) (B : Nat) (hB : B ≤ w.heap.size) (o : Obj) : Below B w (w.alloc o) := (Below.refl w.heap.size w).alloc (Nat.le_refl _) o |>.mono hB

set_option maxHeartbeats 8000000 in
set_option maxRecDepth 100000 in
theorem written_any (n k : Nat) (hn : n < 100000000000000000) (hk : k ≤ 16) (w : World) : Calls Tryz.prog 49 #[.int .i64 (n : Int), .int .i64 (k : Int)] w fun e w' => e = .returned (.string (ba (wrS n k))) ∧ Below w.heap.size w w' := by
  have hdl := dec_len n 17 (by omega) (by omega)
  obtain ⟨i5, hi5, hz5, hsi5, hby5⟩ := info_parts infoByte
  go_enter Tryz.func49, Tryz.ntmps49
  go_wp2
  go_loopw [0, 5] (fun uv v wr => ∃ (u : Nat) (bs : Str), uv = .int .i64 (u : Int) ∧ BRow wr w.heap.size v bs ∧ u ≤ n ∧ Hid (WideAt n u bs) ∧ Hid (bs = [] → v = .slice none 0 0) ∧ Hid (Below w.heap.size w wr)) (fun uv v _ => 2 * (RowKit.intOf uv).toNat + (1 - vLen v))
  case atStart => exact ⟨n, [], rfl, World.ownsRow_nil _ _ _ _, Nat.le_refl _, hid (.inl ⟨rfl, rfl⟩), hid (fun _ => rfl), hid (Below.refl _ _)⟩
  case round =>
    obtain ⟨u, bs, rfl, hrow, hun, HW, hnil, HB⟩ := hrel
    have hsz := HB.out.size
    have hbl := HW.out.short
    have hu62 : u < 100000000000000000 := by omega
    by_cases hbs : bs = []
    · have hv := hnil.out hbs
      subst hv
      by_cases hu : 0 < u
      · have hu1 : decide (0 < (u : Int)) = true := decide_eq_true (by omega)
        have hu2 : (0 : Int) < (u : Int) := by omega
        have hap := run_append_owned_none (P := Tryz.prog) (w := wr.alloc (Obj.cells #[Value.int IntKind.u8 (48 + (u : Int) % 10)] 5)) w.heap.size 57 57 5 i5 1 Tryz.underlying57 hi5 _ 1 _ (new_byte wr w.heap.size hsz (Value.int IntKind.u8 (48 + (u : Int) % 10)))
        have hB2 := hid (HB.out.trans (new_below wr w.heap.size hsz (Obj.cells #[Value.int IntKind.u8 (48 + (u : Int) % 10)] 5)))
        go_wp2
        go_roundw
        case rel =>
          refine ⟨u / 10, one48 (u % 10) :: bs, by simp, ?_, by omega, hid (HW.out.step (.inl hu)), hid (fun h => by cases h), hB2⟩
          subst hbs
          unfold BRow
          show World.ownsRow _ _ _ _ _ 1 [Value.int .u8 ((one48 (u % 10)).toNat : Int)]
          rw [one48_val]
          exact new_byte wr w.heap.size hsz _
        case measure => simp [RowKit.intOf, vLen]; omega
      · obtain rfl : u = 0 := by omega
        have hap := run_append_owned_none (P := Tryz.prog) (w := wr.alloc (Obj.cells #[Value.int IntKind.u8 48] 5)) w.heap.size 57 57 5 i5 1 Tryz.underlying57 hi5 _ 1 _ (new_byte wr w.heap.size hsz (Value.int IntKind.u8 48))
        have hB2 := hid (HB.out.trans (new_below wr w.heap.size hsz (Obj.cells #[Value.int IntKind.u8 48] 5)))
        subst hbs
        go_wp2
        go_roundw
        case rel =>
          refine ⟨0, [one48 0], by simp, ?_, by omega, hid (HW.out.step (.inr rfl)), hid (fun h => by cases h), hB2⟩
          unfold BRow
          exact new_byte wr w.heap.size hsz _
        case measure => simp [RowKit.intOf, vLen]
    · obtain ⟨g, cap, rfl, hg, hcell⟩ := hrow.some hbs
      have hbpos : 0 < bs.length := List.length_pos_iff.2 hbs
      by_cases hu : 0 < u
      · have hu1 : decide (0 < (u : Int)) = true := decide_eq_true (by omega)
        have hu2 : (0 : Int) < (u : Int) := by omega
        have hcell2 : ∀ (o : Obj) j z, (byteCells bs)[j]? = some z → (wr.alloc o).cell? ((⟨g, 0, none⟩ : Addr).add j) = some z := fun o => (World.ownsRow.alloc hrow o).cells rfl
        have HC := hid hcell2
        have HC3 : Hid (1 + bs.length ≤ maxLen) := by unfold maxLen; exact hid (by omega)
        have HC4 : Hid ((1 + bs.length) * 1 ≤ 140737488355328) := hid (by omega)
        have HC5 : Hid (∀ o : Obj, w.heap.size ≤ (wr.alloc o).heap.size) := hid (fun o => by simp; omega)
        clear hcell hcell2
        go_wp2_with (at_builtin; refine wpList_append_own _ rfl _ _ 57 rfl w.heap.size 5 i5 (.int .u8 0) 1 1 Tryz.underlying57 hi5 hz5 hsi5 hby5 rfl (by decide) _ 1 [Value.int IntKind.u8 (48 + (u : Int) % 10)] rfl (new_byte wr w.heap.size hsz _) ⟨g, 0, none⟩ bs.length cap (byteCells bs) rfl (by rw [byteCells_len]; simp) (HC.out _) (byte_one _) HC3.out HC4.out (HC5.out _) ?_)
        intro v' w4 hown' hgrow _
        have hg' := grownBy_of_alloc hgrow
        have hb24 : Below w.heap.size wr w4 := (Below.refl _ wr).grown hg' hsz (fun k hk => by simp [Value.ownBlock] at hk; omega)
        have hrow4 : BRow w4 w.heap.size v' (one48 (u % 10) :: bs) := by
          unfold BRow
          show World.ownsRow _ _ _ _ _ (bs.length + 1) (Value.int .u8 ((one48 (u % 10)).toNat : Int) :: byteCells bs)
          rw [one48_val, Nat.add_comm]
          exact hown'
        obtain ⟨g', cap', rfl, _, _⟩ := hrow4.some (by simp)
        have HR4 := hid hrow4
        have HB4 := hid (HB.out.trans hb24)
        clear hb24 hg' hgrow hown' hrow4 hrow hnil HC HC3 HC4 HC5
        go_wp2
        go_roundw
        case rel => exact ⟨u / 10, one48 (u % 10) :: bs, by simp, HR4.out, by omega, hid (HW.out.step (.inl hu)), hid (fun h => by cases h), HB4⟩
        case measure => simp [RowKit.intOf, vLen]; omega
      · have hu2 : ¬ (0 : Int) < (u : Int) := by omega
        have hdec : bs = decDigits n := HW.out.done (by rintro (h | h); omega; exact hbs h)
        have hbz : ¬ ((bs.length : Int) = 0) := by omega
        have hbz2 : ((bs.length : Int) == 0) = false := by simpa using hbs
        have HROW := hid hrow
        have HDEC := hid hdec
        clear hcell hrow hnil hdec
        go_wp2
        go_loopw [5] (fun v wq => ∃ (j : Nat) (cs : Str), BRow wq w.heap.size v cs ∧ cs ≠ [] ∧ Hid (cs = zerosS j ++ decDigits n) ∧ Hid (j = 0 ∨ j + (decDigits n).length ≤ k) ∧ Hid (Below w.heap.size w wq)) (fun v _ => k - vLen v)
        case atStart => exact ⟨0, bs, HROW.out, hbs, hid (by rw [HDEC.out]; rfl), hid (.inl rfl), HB⟩
        case round =>
          obtain ⟨j, cs, hrow, hcs, hcz, hj, HB⟩ := hrel
          obtain ⟨g, cap, rfl, hg, hcell⟩ := hrow.some hcs
          have hlen : Hid (cs.length = j + (decDigits n).length) := hid (by rw [hcz.out]; simp [zerosS])
          have hcl : cs.length ≤ 17 := by
            have h1 := hlen.out
            rcases hj.out with h | h <;> omega
          have hsz := HB.out.size
          by_cases hlt : cs.length < k
          · have hltz : (cs.length : Int) < (k : Int) := by omega
            have hcell2 : ∀ (o : Obj) j z, (byteCells cs)[j]? = some z → (wr.alloc o).cell? ((⟨g, 0, none⟩ : Addr).add j) = some z := fun o => (World.ownsRow.alloc hrow o).cells rfl
            have HC := hid hcell2
            have HC3 : Hid (1 + cs.length ≤ maxLen) := by unfold maxLen; exact hid (by omega)
            have HC4 : Hid ((1 + cs.length) * 1 ≤ 140737488355328) := hid (by omega)
            have HC5 : Hid (∀ o : Obj, w.heap.size ≤ (wr.alloc o).heap.size) := hid (fun o => by simp; omega)
            clear hcell hcell2
            go_wp2_with (at_builtin; refine wpList_append_own _ rfl _ _ 57 rfl w.heap.size 5 i5 (.int .u8 0) 1 1 Tryz.underlying57 hi5 hz5 hsi5 hby5 rfl (by decide) _ 1 [Value.int IntKind.u8 48] rfl (new_byte wr w.heap.size hsz _) ⟨g, 0, none⟩ cs.length cap (byteCells cs) rfl (by rw [byteCells_len]; simp) (HC.out _) (byte_one _) HC3.out HC4.out (HC5.out _) ?_)
            intro v' w4 hown' hgrow _
            have hg' := grownBy_of_alloc hgrow
            have hb24 : Below w.heap.size wr w4 := (Below.refl _ wr).grown hg' hsz (fun k hk => by simp [Value.ownBlock] at hk; omega)
            have hrow4 : BRow w4 w.heap.size v' (48 :: cs) := by
              unfold BRow
              show World.ownsRow _ _ _ _ _ (cs.length + 1) (Value.int .u8 48 :: byteCells cs)
              rw [Nat.add_comm]
              exact hown'
            obtain ⟨g', cap', rfl, _, _⟩ := hrow4.some (by simp)
            have HR4 := hid hrow4
            have HB4 := hid (HB.out.trans hb24)
            clear hb24 hg' hgrow hown' hrow4 hrow HC HC3 HC4 HC5
            go_wp2
            go_roundw
            case rel => exact ⟨j + 1, 48 :: cs, HR4.out, by simp, hid (by rw [hcz.out]; simp [zerosS, List.replicate_succ]), hid (.inr (by have := hlen.out; omega)), HB4⟩
            case measure => simp [vLen]; omega
          · have hltz : ¬ (cs.length : Int) < (k : Int) := by omega
            have hcv := row_string (P := Tryz.prog) hrow 57 5 9 Tryz.underlying57 Tryz.underlying5 Tryz.underlying9
            have hz : Hid (⟨cs.toArray⟩ = ba (wrS n k)) := hid (by
              have hjk : j = k - (decDigits n).length := by
                have h1 := hlen.out
                rcases hj.out with h | h <;> omega
              show ba cs = _
              rw [hcz.out, hjk]
              rfl)
            clear hcell hrow hcz
            go_wp2
            go_ret
            exact ⟨by rw [← hz.out]; rfl, HB.out⟩
end Go.Proofs.YtldnbneblpebiaaGreatDoor
