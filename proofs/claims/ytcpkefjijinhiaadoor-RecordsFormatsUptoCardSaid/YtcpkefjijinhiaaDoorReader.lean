/-
  The reference's reader of layer 2: column and ended. Conditions: the reader lies in memory; its text has at most 65536 bytes.
-/
import Derived.Test.YtcpkefjijinhiaaDoorSame
set_option linter.unusedVariables false
namespace Go.Proofs.YtcpkefjijinhiaaDoor
open Go Go.Proofs Go.RowKit Go.Lib

/-- A reader in block g, at a place of the text S. -/
structure ReaderAt (w : World) (g : Nat) (S : ByteArray) (at' line begin' : Nat) : Prop where
  cells : w.heap[g]? = some (.cells #[.string S, .int .i64 (at' : Int), .int .i64 (line : Int), .int .i64 (begin' : Int)] 89 (0, 0))
  le : at' ≤ S.size
  from' : begin' ≤ at'
  lines : line ≤ at' + 2
  small : S.size ≤ 65536
theorem ReaderAt.c0 {w : World} {g a l b : Nat} {S : ByteArray} (h : ReaderAt w g S a l b) : w.cell? ⟨g, 0, none⟩ = some (.string S) := by rw [Lib.cell_of_heap h.cells]; rfl
theorem ReaderAt.c1 {w : World} {g a l b : Nat} {S : ByteArray} (h : ReaderAt w g S a l b) : w.cell? ⟨g, 1, none⟩ = some (.int .i64 (a : Int)) := by rw [Lib.cell_of_heap h.cells]; rfl
theorem ReaderAt.c2 {w : World} {g a l b : Nat} {S : ByteArray} (h : ReaderAt w g S a l b) : w.cell? ⟨g, 2, none⟩ = some (.int .i64 (l : Int)) := by rw [Lib.cell_of_heap h.cells]; rfl
theorem ReaderAt.c3 {w : World} {g a l b : Nat} {S : ByteArray} (h : ReaderAt w g S a l b) : w.cell? ⟨g, 3, none⟩ = some (.int .i64 (b : Int)) := by rw [Lib.cell_of_heap h.cells]; rfl
theorem ex_drew {w w' : World} (h : ∃ q, w' = w.drewN q) (n : Nat) : ∃ q, w'.drewN n = w.drewN q := by
  obtain ⟨q, rfl⟩ := h
  exact ⟨q + n, by rw [World.drewN_drewN]⟩

set_option maxHeartbeats 1000000 in
theorem column_any (g a l b : Nat) (S : ByteArray) (w : World) (h : ReaderAt w g S a l b) :
    Calls Tryd.prog 59 #[.pointer (some ⟨g, 0, none⟩)] w fun e w' => e = .returned (.int .i64 ((a : Int) - (b : Int) + 1)) ∧ ∃ q, w' = w.drewN q := by
  have h1 := h.c1
  have h3 := h.c3
  have hle := h.le
  have hfr := h.from'
  have hsm := h.small
  have e1 : IntKind.i64.wrap ((a : Int) - (b : Int)) = (a : Int) - (b : Int) := IntWalk.i64_in _ (by omega)
  have e2 : IntKind.i64.wrap ((a : Int) - (b : Int) + 1) = (a : Int) - (b : Int) + 1 := IntWalk.i64_in _ (by omega)
  clear h hle hfr hsm
  go_enter Tryd.func59, Tryd.ntmps59
  go_wp2
  go_quiet (fail)
  go_wp2
  go_ret
  exact ⟨rfl, _, rfl⟩

/-- Whether what is left begins with the end of a line, or is empty. -/
def endL : Str → Bool
  | [] => true
  | c :: r => c.toNat == 10 || (c.toNat == 13 && (match r with | [] => true | d :: _ => d.toNat == 10))
theorem drop_at (S : ByteArray) (a : Nat) (h : a < S.size) : S.data.toList.drop a = S[a]'h :: S.data.toList.drop (a + 1) := by
  have h' := h
  rw [Lib.size_eq] at h'
  rw [List.drop_eq_getElem_cons h']
  rfl
theorem end_cases (S : ByteArray) (a : Nat) (ha : a ≤ S.size) :
    (a = S.size ∧ endL (S.data.toList.drop a) = true) ∨ ∃ (h : a < S.size) (x : Nat), (S[a]'h).toNat = x ∧
      ((x = 10 ∧ endL (S.data.toList.drop a) = true) ∨ (x ≠ 10 ∧ x ≠ 13 ∧ endL (S.data.toList.drop a) = false) ∨
       (x = 13 ∧ a + 1 = S.size ∧ endL (S.data.toList.drop a) = true) ∨
       (x = 13 ∧ ∃ (h' : a + 1 < S.size) (y : Nat), (S[a + 1]'h').toNat = y ∧ ((y = 10 ∧ endL (S.data.toList.drop a) = true) ∨ (y ≠ 10 ∧ endL (S.data.toList.drop a) = false)))) := by
  by_cases h : a < S.size
  · refine .inr ⟨h, _, rfl, ?_⟩
    rw [drop_at S a h]
    by_cases h10 : (S[a]'h).toNat = 10
    · exact .inl ⟨h10, by simp [endL, h10]⟩
    · by_cases h13 : (S[a]'h).toNat = 13
      · by_cases h1 : a + 1 < S.size
        · refine .inr (.inr (.inr ⟨h13, h1, _, rfl, ?_⟩))
          rw [drop_at S (a + 1) h1]
          by_cases hy : (S[a + 1]'h1).toNat = 10
          · exact .inl ⟨hy, by simp [endL, h13, hy]⟩
          · exact .inr ⟨hy, by simp [endL, h13, hy]⟩
        · refine .inr (.inr (.inl ⟨h13, by omega, ?_⟩))
          rw [List.drop_of_length_le (by rw [← Lib.size_eq]; omega)]
          simp [endL, h13]
      · exact .inr (.inl ⟨h10, h13, by simp [endL, h10, h13]⟩)
  · refine .inl ⟨by omega, ?_⟩
    rw [List.drop_of_length_le (by rw [← Lib.size_eq]; omega)]
    rfl

set_option maxHeartbeats 4000000 in
set_option maxRecDepth 100000 in
theorem ended_any (g a l b : Nat) (S : ByteArray) (w : World) (h : ReaderAt w g S a l b) :
    Calls Tryd.prog 44 #[.pointer (some ⟨g, 0, none⟩)] w fun e w' => e = .returned (.bool (endL (S.data.toList.drop a))) ∧ ∃ q, w' = w.drewN q := by
  have h0 := h.c0
  have h1 := h.c1
  have hle := h.le
  have hsm := h.small
  have e1 : IntKind.i64.wrap ((S.size : Int) - (a : Int)) = (S.size : Int) - (a : Int) := IntWalk.i64_in _ (by omega)
  have e2 : IntKind.i64.wrap ((a : Int) + 1) = (a : Int) + 1 := IntWalk.i64_in _ (by omega)
  rcases end_cases S a hle with ⟨ha, he⟩ | ⟨ha, x, hx, hc⟩
  · rw [he]
    have z0 : (((S.size : Int) - (a : Int)) == 0) = true := by simp; omega
    clear h hle hsm he ha
    go_enter Tryd.func44, Tryd.ntmps44
    go_wp2
    go_quiet (fail)
    go_wp2
    go_quiet (fail)
    go_wp2
    go_ret
    exact ⟨rfl, ex_drew (ex_drew ⟨0, rfl⟩ _) _⟩
  · have haz : (a : Int) < (S.size : Int) := by omega
    have z0 : (((S.size : Int) - (a : Int)) == 0) = false := by simp; omega
    have n10 : ∀ x : Nat, x ≠ 10 → ((x : Int) == 10) = false := fun x h => by simp; omega
    have n13 : ∀ x : Nat, x ≠ 13 → ((x : Int) == 13) = false := fun x h => by simp; omega
    rcases hc with ⟨rfl, he⟩ | ⟨hn10, hn13, he⟩ | ⟨rfl, h1s, he⟩ | ⟨rfl, hb, y, hy, hyc⟩
    · rw [he]
      clear h hle hsm he n10 n13
      go_enter Tryd.func44, Tryd.ntmps44
      go_wp2
      go_quiet (fail)
      go_wp2
      go_quiet (fail)
      go_wp2
      go_ret
      exact ⟨rfl, ex_drew (ex_drew ⟨0, rfl⟩ _) _⟩
    · rw [he]
      have m10 := n10 x hn10
      have m13 := n13 x hn13
      clear h hle hsm he n10 n13
      go_enter Tryd.func44, Tryd.ntmps44
      go_wp2
      go_quiet (fail)
      go_wp2
      go_quiet (fail)
      go_wp2
      go_quiet (fail)
      go_wp2
      go_ret
      exact ⟨rfl, ex_drew (ex_drew (ex_drew ⟨0, rfl⟩ _) _) _⟩
    · rw [he]
      have z1 : (((S.size : Int) - (a : Int)) == 1) = true := by simp; omega
      clear h hle hsm he n10 n13 h1s
      go_enter Tryd.func44, Tryd.ntmps44
      go_wp2
      go_quiet (fail)
      go_wp2
      go_quiet (fail)
      go_wp2
      go_quiet (fail)
      go_wp2
      go_ret
      exact ⟨rfl, ex_drew (ex_drew (ex_drew ⟨0, rfl⟩ _) _) _⟩
    · have z1 : (((S.size : Int) - (a : Int)) == 1) = false := by simp; omega
      have hbz : (a : Int) + 1 < (S.size : Int) := by omega
      have hnn : (0 : Int) ≤ (a : Int) + 1 := by omega
      have htn : ((a : Int) + 1).toNat = a + 1 := by omega
      rcases hyc with ⟨rfl, he⟩ | ⟨hn, he⟩
      · rw [he]
        clear h hle hsm he n10 n13
        go_enter Tryd.func44, Tryd.ntmps44
        go_wp2
        go_quiet (fail)
        go_wp2
        go_quiet (fail)
        go_wp2
        go_quiet (fail)
        go_wp2
        go_ret
        exact ⟨rfl, ex_drew (ex_drew (ex_drew ⟨0, rfl⟩ _) _) _⟩
      · rw [he]
        have m10 := n10 y hn
        clear h hle hsm he n10 n13
        go_enter Tryd.func44, Tryd.ntmps44
        go_wp2
        go_quiet (fail)
        go_wp2
        go_quiet (fail)
        go_wp2
        go_quiet (fail)
        go_wp2
        go_ret
        exact ⟨rfl, ex_drew (ex_drew (ex_drew ⟨0, rfl⟩ _) _) _⟩
end Go.Proofs.YtcpkefjijinhiaaDoor
