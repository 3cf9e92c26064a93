/-
  Slices of ints in memory, and whether two of them are equal: the reference's SameInts. Conditions: both lie in memory.
-/
import Derived.Test.YtmmphjpakoimcaaDoorText
import Derived.Laws.OwnMore
set_option linter.unusedVariables false
namespace Go.Proofs.YtmmphjpakoimcaaDoor
open Go Go.Proofs Go.RowKit Go.Lib

theorem getD_elem {L : List Int} {j : Nat} (hj : j < L.length) : L.getD j 0 = L[j] := by simp [List.getD, List.getElem?_eq_getElem hj]
theorem IntsIn.at_ {w : World} {B : Nat} {A : Option Addr} {L : List Int} (h : IntsIn w B A L) {k : Nat} (hk : k < L.length) : ∃ b off, A = some ⟨b, off, none⟩ ∧ b < B ∧ w.cell? ⟨b, off + k, none⟩ = some (.int .i64 (L.getD k 0)) := by
  rcases h with h | ⟨b, off, hA, hlt, hc⟩
  · subst h; simp at hk
  · exact ⟨b, off, hA, hlt, by simpa [List.getD, List.getElem?_eq_getElem hk] using hc k _ (List.getElem?_eq_getElem hk)⟩
theorem IntsIn.drawn {w : World} {B : Nat} {A : Option Addr} {L : List Int} (h : IntsIn w B A L) (n : Nat) : IntsIn (w.drewN n) B A L := by
  rcases h with h | ⟨b, off, hA, hlt, hc⟩
  · exact .inl h
  · exact .inr ⟨b, off, hA, hlt, fun j v hv => hc j v hv⟩
theorem below_drawn {B : Nat} {a w : World} (h : Below B a w) : ∀ q, Below B a (w.drewN q)
  | 0 => h
  | q + 1 => (below_drawn h q).drew
theorem bcell {W w1 : World} (hb : Below W.heap.size W w1) : (∀ b o, b < W.heap.size → w1.cell? ⟨b, o, none⟩ = W.cell? ⟨b, o, none⟩) ∧ (∀ b o, b < W.heap.size → w1.frozen? ⟨b, o, none⟩ = W.frozen? ⟨b, o, none⟩) :=
  ⟨fun b o h => hb.cell (p := ⟨b, o, none⟩) h, fun b o h => hb.frozen (p := ⟨b, o, none⟩) h⟩

theorem infoInt : (Tryd.prog.info? 3).map (fun i => (i.zero, i.size, i.bytes)) = some (some (.int .i64 0), 1, 8) := by kernel_rfl
def intVals (l : List Int) : List Value := l.map (Value.int .i64)
theorem intVals_len (l : List Int) : (intVals l).length = l.length := by simp [intVals]
theorem intVals_app (a b : List Int) : intVals (a ++ b) = intVals a ++ intVals b := by simp [intVals]
/-- A row of ints that the call owns. -/
def IntRow (w : World) (B : Nat) (v : Value) (l : List Int) : Prop := w.ownsRow B 3 1 v l.length (intVals l)
theorem IntRow.nil (w : World) (B : Nat) : IntRow w B (.slice none 0 0) [] := ⟨rfl, .inl ⟨rfl, rfl⟩⟩
theorem IntRow.intsIn {w : World} {B : Nat} {v : Value} {l : List Int} (h : IntRow w B v l) : ∃ A c, v = .slice A l.length c ∧ l.length ≤ c ∧ c ≤ 9223372036854775807 ∧ IntsIn w w.heap.size A l := by
  have h' := h
  rcases h.2 with ⟨hv, h0⟩ | ⟨g, cap, cur, hv, hB, hg, h1, h2, _⟩
  · have hl : l = [] := List.eq_nil_of_length_eq_zero h0
    subst hl
    exact ⟨none, 0, hv, Nat.le_refl _, by omega, .inl rfl⟩
  · refine ⟨_, cap, hv, h1, by unfold maxLen at h2; omega, .inr ⟨g, 0, rfl, (Array.getElem?_eq_some_iff.1 hg).1, fun j s hj => ?_⟩⟩
    have := World.ownsRow.cells h' (g := g) (by rw [hv]; rfl) j (.int .i64 s) (by unfold intVals; rw [List.getElem?_map, hj]; rfl)
    rwa [Addr.add_lit] at this
theorem IntRow.mono {w : World} {B B' : Nat} {v : Value} {l : List Int} (h : IntRow w B v l) (hB : B' ≤ B) : IntRow w B' v l := by
  obtain ⟨h1, h2⟩ := h
  refine ⟨h1, ?_⟩
  rcases h2 with h2 | ⟨g, cap, cur, hv, hg, r⟩
  · exact .inl h2
  · exact .inr ⟨g, cap, cur, hv, by omega, r⟩
theorem row_under {w w' : World} {B e z n : Nat} {v : Value} {xs : List Value} (h : w.ownsRow B e z v n xs) (hb : Below w.heap.size w w') : w'.ownsRow B e z v n xs := by
  obtain ⟨h1, h2⟩ := h
  refine ⟨h1, ?_⟩
  rcases h2 with h2 | ⟨k, cap, cur, hk, hg, hh, r⟩
  · exact .inl h2
  · exact .inr ⟨k, cap, cur, hk, hg, (hb.block k (Array.getElem?_eq_some_iff.1 hh).1).trans hh, r⟩
theorem row_slice {w : World} {B e z n : Nat} {v : Value} {xs : List Value} (h : w.ownsRow B e z v n xs) : ∃ A c, v = .slice A n c := by
  rcases h.2 with ⟨hv, h0⟩ | ⟨g, cap, cur, hv, _⟩
  · exact ⟨none, 0, by rw [hv, h0]⟩
  · exact ⟨_, cap, hv⟩
theorem row_kind {w : World} {B e z n : Nat} {v : Value} {xs : List Value} (h : w.ownsRow B e z v n xs) (g : Nat) (hg : v.ownBlock = some g) : ∃ c, w.heap[g]? = some (.cells c e (0, 0)) := by
  rcases h.2 with ⟨rfl, _⟩ | ⟨k, cap, cur, rfl, _, hh, _⟩
  · simp [Value.ownBlock] at hg
  · simp only [Value.ownBlock, Option.some.injEq] at hg
    subst hg
    exact ⟨cur, hh⟩
theorem info_parts {P : Program} {t : TypeId} {z : Value} {n b : Nat} (h : (P.info? t).map (fun i => (i.zero, i.size, i.bytes)) = some (some z, n, b)) : ∃ i, P.info? t = some i ∧ i.zero = some z ∧ i.size = n ∧ i.bytes = b := by
  cases hi : P.info? t with
  | none => rw [hi] at h; simp at h
  | some i =>
    rw [hi] at h
    simp only [Option.map_some, Option.some.injEq, Prod.mk.injEq] at h
    exact ⟨i, rfl, h.1, h.2.1, h.2.2⟩

theorem take_eq_succ' (la lb : List Int) (i : Nat) (hi : i < la.length) (hl : la.length = lb.length) (h : la.take i = lb.take i) : (la.take (i + 1) = lb.take (i + 1)) ↔ la.getD i 0 = lb.getD i 0 := by
  rw [List.take_add_one, List.take_add_one, List.getElem?_eq_getElem hi, List.getElem?_eq_getElem (show i < lb.length by omega), h, getD_elem hi, getD_elem (show i < lb.length by omega)]
  constructor
  · intro e
    simpa using List.append_cancel_left e
  · intro e
    rw [e]

set_option maxHeartbeats 2000000 in
set_option maxRecDepth 100000 in
theorem sameInts_any (A A' : Option Addr) (la lb : List Int) (ca cb B B' : Nat) (w : World) (ha : IntsIn w B A la) (hb : IntsIn w B' A' lb) (h63 : la.length ≤ 9223372036854775807) :
    Calls Tryd.prog 15 #[.slice A la.length ca, .slice A' lb.length cb] w fun e w' => e = .returned (.bool (decide (la = lb))) ∧ ∃ q, w' = w.drewN q := by
  by_cases hl : la.length = lb.length
  · have hlz : ((la.length : Int) != (lb.length : Int)) = false := by simp [hl]
    obtain ⟨ANS, hANS⟩ : ∃ ANS, decide (la = lb) = ANS := ⟨_, rfl⟩
    rw [hANS]
    have HA := hid ha
    have HB := hid hb
    have HL := hid hl
    have HANS := hid hANS
    clear ha hb hl hANS
    go_enter Tryd.func15, Tryd.ntmps15
    go_wp2
    go_loopw [5] (fun iv wr => ∃ i : Nat, iv = .int .i64 (i : Int) ∧ i ≤ la.length ∧ Hid (la.take i = lb.take i) ∧ ∃ q, wr = w.drewN q) (fun iv _ => la.length - (RowKit.intOf iv).toNat)
    case atStart => exact ⟨0, rfl, Nat.zero_le _, hid rfl, 0, rfl⟩
    case round =>
      obtain ⟨i, rfl, hi, ht, q, rfl⟩ := hrel
      by_cases hlt : i < la.length
      · have hltz : (i : Int) < (la.length : Int) := by omega
        have hlt' : i < lb.length := by rw [← HL.out]; exact hlt
        have hltz' : (i : Int) < (lb.length : Int) := by omega
        obtain ⟨b1, o1, rfl, _, hc1⟩ := HA.out.at_ hlt
        obtain ⟨b2, o2, rfl, _, hc2⟩ := HB.out.at_ hlt'
        have hiff := take_eq_succ' la lb i hlt HL.out ht.out
        obtain ⟨x, hx⟩ : ∃ x, la.getD i 0 = x := ⟨_, rfl⟩
        obtain ⟨y, hy⟩ : ∃ y, lb.getD i 0 = y := ⟨_, rfl⟩
        rw [hx] at hc1 hiff
        rw [hy] at hc2 hiff
        have HIFF := hid hiff
        have HX := hid hx
        have HY := hid hy
        by_cases hxy : x = y
        · have hbe : (x != y) = false := by simpa using hxy
          have hbe2 : (x == y) = true := by simpa using hxy
          have HXY := hid hxy
          clear hiff hx hy hxy
          go_wp2
          go_quiet (fail)
          go_wp2
          go_roundw
          case rel => exact ⟨i + 1, by go_num, by omega, hid (HIFF.out.2 HXY.out), q + nq, rfl⟩
          case measure => simp [RowKit.intOf]; omega
        · have hbe : (x != y) = true := by simpa using hxy
          have hbe2 : (x == y) = false := by simpa using hxy
          have hf : ANS = false := by
            rw [← HANS.out]
            apply decide_eq_false
            intro e
            subst e
            exact hxy (by rw [← HX.out, ← HY.out])
          subst hf
          clear hiff hx hy hxy
          go_wp2
          go_quiet (fail)
          go_wp2
          go_ret
          exact ⟨rfl, q + nq, by rw [World.drewN_drewN]⟩
      · have hltz : ¬ (i : Int) < (la.length : Int) := by omega
        have hf : ANS = true := by
          rw [← HANS.out]
          apply decide_eq_true
          have h := ht.out
          rwa [List.take_of_length_le (by omega), List.take_of_length_le (by have := HL.out; omega)] at h
        subst hf
        go_wp2
        go_ret
        exact ⟨rfl, q, rfl⟩
  · have hlz : ((la.length : Int) != (lb.length : Int)) = true := by simp; omega
    have hf : decide (la = lb) = false := decide_eq_false (fun e => hl (by rw [e]))
    rw [hf]
    clear ha hb
    go_enter Tryd.func15, Tryd.ntmps15
    go_wp2
    go_ret
    exact ⟨rfl, 0, rfl⟩
end Go.Proofs.YtmmphjpakoimcaaDoor
