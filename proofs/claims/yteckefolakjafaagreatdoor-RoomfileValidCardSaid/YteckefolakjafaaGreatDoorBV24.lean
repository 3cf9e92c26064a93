/-
  Ascending codes: areFeatures of the program; Rises and Codes of the specification. Conditions: the strings lie in memory.
  A room alone: check of roomfile. Conditions: the room's lists lie in memory.
  The record of a room: writeFields of the program. Conditions: the room's lists lie in memory, it is valid; the variables hold what their text lays.
-/
import Derived.Test.YteckefolakjafaaGreatDoorBV20
import Derived.Test.YteckefolakjafaaGreatDoorBV15
import Derived.Test.YteckefolakjafaaGreatDoorBV14
import Derived.Test.YteckefolakjafaaGreatDoorBV23
import Derived.Sort.Walk0
import Derived.Laws.OwnMore
set_option linter.unusedVariables false
namespace Go.Proofs.YteckefolakjafaaGreatDoor
open Go Go.Proofs Go.RowKit Go.Lib

theorem le_bits (X Y : ByteArray) : (Op.bytesLess X.toList Y.toList || X.toList == Y.toList) = decide (¬ lst Y < lst X) := by
  have e1 : X.toList = lst X := Lib.toList_data X
  have e2 : Y.toList = lst Y := Lib.toList_data Y
  rw [e1, e2, bytesLess_eq]
  generalize lst X = x
  generalize lst Y = y
  rw [Bool.eq_iff_iff, Bool.or_eq_true, decide_eq_true_eq, decide_eq_true_eq, beq_iff_eq]
  exact (List.le_iff_lt_or_eq (l₁ := x) (l₂ := y)).symm
theorem strs_cell {w : World} {P : Nat → Prop} {A : Option Addr} {l : List Str} (h : S3.StrsIn w P A l) {k : Nat} (hk : k < l.length) : ∃ b off, A = some ⟨b, off, none⟩ ∧ P b ∧ ∀ j (hj : j < l.length), w.cell? ⟨b, off + j, none⟩ = some (.string (ba l[j])) := by
  obtain ⟨b, off, hA, hP, _⟩ := h.at_ hk
  refine ⟨b, off, hA, hP, fun j hj => ?_⟩
  obtain ⟨b', off', e, _, hc⟩ := h.at_ hj
  rw [hA] at e
  injection e with e
  injection e with e1 e2 _
  subst e1 e2
  exact hc

set_option maxHeartbeats 4000000 in
set_option maxRecDepth 100000 in
theorem areF_any (A : Option Addr) (l : List Str) (c : Nat) (Pp : Nat → Prop) (w : World) (h : S3.StrsIn w Pp A l) (hlc : l.length ≤ c) (hc : c ≤ 9223372036854775807) :
    Calls Tryz.prog 48 #[.slice A l.length c] w fun e w' => e = .returned (.bool (featB l)) ∧ w = w' := by
  obtain ⟨R, hR⟩ : ∃ R, featB l = R := ⟨_, rfl⟩
  rw [hR]
  have H := hid h
  have HR := hid hR
  clear hR h
  go_enter Tryz.func48, Tryz.ntmps48
  go_wp2
  go_loop [3, 4, 7] (fun _ _ iv => ∃ i : Nat, iv = .int .i64 (i : Int) ∧ i ≤ l.length ∧ Hid (featTo l i)) (fun _ _ iv => l.length - (RowKit.intOf iv).toNat)
  case atStart => exact ⟨0, rfl, Nat.zero_le _, hid ⟨fun j _ h => absurd h (Nat.not_lt_zero _), fun j _ h => absurd h (Nat.not_lt_zero _)⟩⟩
  case round =>
    obtain ⟨i, rfl, hi, hE⟩ := hrel
    by_cases hlt : i < l.length
    · have hltz : (i : Int) < (l.length : Int) := by omega
      obtain ⟨b, off, rfl, _, hcs⟩ := strs_cell H.out hlt
      have hc1 := hcs i hlt
      have cV := S3.valid_any (ba l[i])
      have HS := hid (featTo_step l i hlt hE.out)
      have HB := hid (featB_bad_code l i hlt)
      obtain ⟨x, hx⟩ : ∃ x, l[i] = x := ⟨_, rfl⟩
      have HXX := hid hx
      rw [hx] at hc1 cV HB
      rw [show (ba x).data.toList = x from rfl] at cV
      obtain ⟨X, hX⟩ : ∃ X, ba x = X := ⟨_, rfl⟩
      rw [hX] at hc1 cV
      have hXl : lst X = x := by rw [← hX]; rfl
      have HXL := hid hXl
      clear hx hX hXl
      cases hv : S3.validC x with
      | false =>
        rw [hv] at cV
        have hn : R = false := by rw [← HR.out]; exact HB.out hv
        subst hn
        clear hv HS HB hcs
        go_wp2_with fail
        refine (cV _).mono ?_
        rintro e w' ⟨rfl, rfl⟩
        go_wp2
        go_ret
        exact ⟨rfl, rfl⟩
      | true =>
        rw [hv] at cV
        by_cases h0 : i = 0
        · have h0z : ¬ (0 : Int) < (i : Int) := by omega
          have h0d : decide ((0 : Int) < (i : Int)) = false := decide_eq_false h0z
          have hst := hid (HS.out (by rw [HXX.out]; exact hv) (fun k hk => by omega))
          clear hv HS HB hcs h0
          go_wp2_with fail
          refine (cV _).mono ?_
          rintro e w' ⟨rfl, rfl⟩
          go_wp2
          go_round
          case rel => exact ⟨i + 1, by go_num, by omega, hst⟩
          case measure => simp [RowKit.intOf]; omega
        · obtain ⟨k, hk⟩ : ∃ k, k + 1 = i := ⟨i - 1, by omega⟩
          have h0z : (0 : Int) < (i : Int) := by omega
          have h0d : decide ((0 : Int) < (i : Int)) = true := decide_eq_true h0z
          have hkl : k < l.length := by omega
          have hc2 := hcs k hkl
          have q1 : IntKind.i64.wrap ((i : Int) - 1) = (k : Int) := by rw [show (i : Int) - 1 = (k : Int) by omega]; exact IntWalk.i64_in _ (by omega)
          have q2 : (i : Int) - 1 = (k : Int) := by omega
          have hkz : (k : Int) < (l.length : Int) := by omega
          obtain ⟨y, hy⟩ : ∃ y, l[k] = y := ⟨_, rfl⟩
          have HYY := hid hy
          rw [hy] at hc2
          obtain ⟨Y, hY⟩ : ∃ Y, ba y = Y := ⟨_, rfl⟩
          rw [hY] at hc2
          have hYl : lst Y = y := by rw [← hY]; rfl
          have hcmp := le_bits X Y
          rw [HXL.out, hYl] at hcmp
          clear hy hY hYl
          by_cases hlt2 : y < x
          · rw [decide_eq_false (fun h => h hlt2)] at hcmp
            have hst := hid (HS.out (by rw [HXX.out]; exact hv) (fun j hj => by
              obtain rfl : j = k := by omega
              rw [HYY.out, HXX.out]
              exact hlt2))
            have hc3 : Op.bytesLess X.toList Y.toList = false := by
              cases hb : Op.bytesLess X.toList Y.toList with
              | false => rfl
              | true => rw [hb] at hcmp; simp at hcmp
            have hc4 : (X.toList == Y.toList) = false := by rw [hc3, Bool.false_or] at hcmp; exact hcmp
            clear hv HS HB hcs h0 hcmp hlt2 hk
            go_wp2_with fail
            refine (cV _).mono ?_
            rintro e w' ⟨rfl, rfl⟩
            go_wp2
            go_round
            case rel => exact ⟨i + 1, by go_num, by omega, hst⟩
            case measure => simp [RowKit.intOf]; omega
          · rw [decide_eq_true hlt2] at hcmp
            have hn : R = false := by
              rw [← HR.out]
              refine featB_bad_order l k (by omega) ?_
              rw [HYY.out]
              have : l[k + 1]'(by omega) = x := by
                rw [← HXX.out]
                congr 1
              rw [this]
              exact hlt2
            subst hn
            clear hv HS HB hcs h0 hlt2 hk
            rcases Bool.or_eq_true _ _ ▸ hcmp with h5 | h5
            · go_wp2_with fail
              refine (cV _).mono ?_
              rintro e w' ⟨rfl, rfl⟩
              go_wp2
              go_ret
              exact ⟨rfl, rfl⟩
            · go_wp2_with fail
              refine (cV _).mono ?_
              rintro e w' ⟨rfl, rfl⟩
              go_wp2
              go_ret
              exact ⟨rfl, rfl⟩
    · have hltz : ¬ (i : Int) < (l.length : Int) := by omega
      have hn : R = true := by
        rw [← HR.out]
        obtain rfl : i = l.length := by omega
        exact featTo_all l hE.out
      subst hn
      go_wp2
      go_ret
      exact ⟨rfl, rfl⟩
end Go.Proofs.YteckefolakjafaaGreatDoor

set_option linter.unusedVariables false
namespace Go.Proofs.YteckefolakjafaaGreatDoor
open Go Go.Proofs Go.RowKit Go.Lib

/-- What holds while a room is looked at: its box, the grid's, the number's. -/
structure KR (w0 : World) (d s b m n : Int) (v0 v1 v2 v3 v4 : Value) (w : World) : Prop where
  x : Cells5 w w0.heap.size 0 v0 v1 v2 v3 v4
  g : Box4 w (w0.heap.size + 1) d s b m
  n : w.cell? ⟨w0.heap.size + 1 + 1, 0, none⟩ = some (.int .i64 n)
  z : w0.heap.size + 1 + 1 < w.heap.size
  b : Below w0.heap.size w0 w
theorem KR.first (w : World) (d s b m n : Int) (v0 v1 v2 v3 v4 : Value) (T : TypeId) (o : Obj) (ho : o = .cells #[.int .i64 n] 3) :
    KR w d s b m n v0 v1 v2 v3 v4 (((w.alloc (.cells #[v0, v1, v2, v3, v4] 46)).alloc (.cells #[.int .i64 d, .int .i64 s, .int .i64 b, .int .i64 m] T)).alloc o) := by
  subst ho
  have h1 := Box5.new w v0 v1 v2 v3 v4
  have hb1 := (Below.refl w.heap.size w).alloc (Nat.le_refl _) (.cells #[v0, v1, v2, v3, v4] 46)
  have hs : (w.alloc (.cells #[v0, v1, v2, v3, v4] 46)).heap.size = w.heap.size + 1 := by simp
  generalize w.alloc (.cells #[v0, v1, v2, v3, v4] 46) = w1 at h1 hb1 hs ⊢
  have h2 := Box4.new w1 d s b m T
  have hb2 := (Below.refl w1.heap.size w1).alloc (Nat.le_refl _) (.cells #[.int .i64 d, .int .i64 s, .int .i64 b, .int .i64 m] T)
  have hs2 : (w1.alloc (.cells #[.int .i64 d, .int .i64 s, .int .i64 b, .int .i64 m] T)).heap.size = w.heap.size + 1 + 1 := by simp [hs]
  rw [hs] at h2
  generalize w1.alloc (.cells #[.int .i64 d, .int .i64 s, .int .i64 b, .int .i64 m] T) = w2 at h2 hb2 hs2 ⊢
  have hb3 := (Below.refl w2.heap.size w2).alloc (Nat.le_refl _) (.cells #[.int .i64 n] 3)
  have e3 := heap_alloc_new w2 (.cells #[.int .i64 n] 3)
  have hs3 : (w2.alloc (.cells #[.int .i64 n] 3)).heap.size = w.heap.size + 1 + 1 + 1 := by simp [hs2]
  have h5 := (h1.below hb2 h1.lt).below hb3 (by omega)
  refine ⟨h5.cells, h2.next hb3 h2.lt, ?_, by omega, (hb1.trans (hb2.mono (by omega))).trans (hb3.mono (by omega))⟩
  rw [hs2] at e3
  rw [Lib.cell_of_heap e3]
  rfl
theorem Cells5.below {w w' : World} {b o C : Nat} {v0 v1 v2 v3 v4 : Value} (h : Cells5 w b o v0 v1 v2 v3 v4) (hb : Below C w w') (hC : b < C) : Cells5 w' b o v0 v1 v2 v3 v4 := h.kept (hb.block b hC)
theorem KR.next {w0 w w' : World} {d s b m n : Int} {v0 v1 v2 v3 v4 : Value} (h : KR w0 d s b m n v0 v1 v2 v3 v4 w) (k : Below w.heap.size w w') : KR w0 d s b m n v0 v1 v2 v3 v4 w' := by
  have hz := h.z
  exact ⟨h.x.below k (by omega), h.g.next k (by omega), (k.cell (p := ⟨w0.heap.size + 1 + 1, 0, none⟩) hz).trans h.n, Nat.lt_of_lt_of_le hz k.size, h.b.trans (k.mono h.b.size)⟩
/-- The times of a list that do not fit: asked by ContainsFunc. -/
theorem anyT_any (p : TimeD → Bool) (g : Nat) (lb : Array Value) (eg : ∀ args w, (callFunc g args).run Tryz.prog w = .ok (.enter g args) w) (A : Option Addr) (l : List TimeD) (c B : Nat) (w : World) (hBw : B ≤ w.heap.size)
    (hp : PredBelow Tryz.prog g lb (fun x : TimeF => .agg (encT x).toArray) (fun x => p x.1) w) (h : TimesIn w (fun b => b < B) A l) (hlc : l.length ≤ c) (hc : c ≤ 9223372036854775807) :
    Calls Tryz.prog 43 #[.slice A l.length c, .func (.func g) #[] lb] w fun e w' => e = .returned (.bool (l.any p)) ∧ Below w.heap.size w w' := by
  rcases h with ⟨hle, rfl | ⟨b, off, rfl, hb, hcs⟩⟩
  · exact anyT_nil A c _ w
  · have hcon := AnyQ.slices_ContainsFunc Tryz.laysContainsF 4 Tryz.isAgg55 Tryz.sizeOf55 encT (fun _ => rfl) (fun x => p x.1) g lb eg b off l.length c (listF l hle) w hp (by rw [listF_len]; exact Nat.le_refl _) (by omega) (by show b < w.heap.size; omega) (fun j hj i v hv => by
      have hj' : j < l.length := by rwa [listF_len] at hj
      refine hcs j l[j] (List.getElem?_eq_getElem hj') i v ?_
      have e : (listF l hle)[j]! = ⟨l[j], hle _ (List.getElem_mem hj')⟩ := by
        rw [getElem!_pos (listF l hle) j hj]
        simp [listF]
      rw [e] at hv
      exact hv)
    rw [List.take_of_length_le (by rw [listF_len]; exact Nat.le_refl _), listF_any] at hcon
    exact hcon

set_option maxHeartbeats 8000000 in
set_option maxRecDepth 100000 in
theorem rcheck_any (d s b m n : Int) (r : RoomD) (q : Room5) (w : World) (h : RoomIn w (fun b => b < w.heap.size) r q) :
    Calls Tryz.prog 22 #[roomV r q, .agg #[.int .i64 d, .int .i64 s, .int .i64 b, .int .i64 m], .int .i64 n] w (Says (.int .i64 (roomM d s b m n r)) w) := by
  obtain ⟨code, bld, seats, fs, ts⟩ := r
  obtain ⟨A1, c1, A2, c2⟩ := q
  obtain ⟨hf, ht, hf1, hf2, ht1, ht2⟩ := h
  dsimp only at hf ht hf1 hf2 ht1 ht2
  unfold roomV Says
  dsimp only
  have hk0 := KR.first w d s b m n (.string (ba code)) (.string (ba bld)) (.int .i64 seats) (.slice A1 fs.length c1) (.slice A2 ts.length c2) 24 _ rfl
  have cV1 := fun w => S3.valid_any (ba code) w
  have cV2 := fun w => S3.valid_any (ba bld) w
  have hf' : ∀ w', Below w.heap.size w w' → S3.StrsIn w' (fun b => b < w.heap.size) A1 fs := fun w' hb => S3.StrsIn.below hf hb
  have ht' : ∀ w', Below w.heap.size w w' → TimesIn w' (fun b => b < w.heap.size) A2 ts := fun w' hb => ht.below hb
  have cA := hid (fun w' hb => areF_any A1 fs c1 _ w' (hf' w' hb) hf1 hf2)
  have cT := hid (fun (w' : World) (hk : KR w d s b m n (.string (ba code)) (.string (ba bld)) (.int .i64 seats) (.slice A1 fs.length c1) (.slice A2 ts.length c2) w') =>
    anyT_any (unfitB d s b m n) 45 #[.pointer (some ⟨w.heap.size + 1, 0, none⟩), .pointer (some ⟨w.heap.size + 1 + 1, 0, none⟩)] egUnfit A2 ts c2 w.heap.size w' (by have := hk.z; omega) (pred_unfit d s b m n _ _ w' hk.g hk.n hk.z) (ht' w' hk.b) ht1 ht2)
  obtain ⟨R, hR⟩ : ∃ R, roomM d s b m n (code, bld, seats, fs, ts) = R := ⟨_, rfl⟩
  rw [hR]
  rw [show (ba code).data.toList = code from rfl] at cV1
  rw [show (ba bld).data.toList = bld from rfl] at cV2
  unfold roomM at hR
  dsimp only at hR
  obtain ⟨V1, hV1⟩ : ∃ V, S3.validC code = V := ⟨_, rfl⟩
  obtain ⟨V2, hV2⟩ : ∃ V, S3.validC bld = V := ⟨_, rfl⟩
  obtain ⟨FB, hFB⟩ : ∃ V, featB fs = V := ⟨_, rfl⟩
  obtain ⟨TB, hTB⟩ : ∃ V, ts.any (unfitB d s b m n) = V := ⟨_, rfl⟩
  have cA' := cA.out
  have cT' := cT.out
  rw [hV1] at cV1 hR
  rw [hV2] at cV2 hR
  rw [hFB] at cA' hR
  rw [hTB] at cT' hR
  have CA := hid cA'
  have CT := hid cT'
  obtain ⟨X1, hX1⟩ : ∃ X, ba code = X := ⟨_, rfl⟩
  obtain ⟨X2, hX2⟩ : ∃ X, ba bld = X := ⟨_, rfl⟩
  rw [hX1] at hk0 cV1 CT ⊢
  rw [hX2] at hk0 cV2 CT ⊢
  obtain ⟨F1, hF1⟩ : ∃ F, fs.length = F := ⟨_, rfl⟩
  obtain ⟨T1, hT1⟩ : ∃ F, ts.length = F := ⟨_, rfl⟩
  rw [hF1] at hk0 CT CA hR ⊢
  rw [hT1] at hk0 CT hR ⊢
  clear hf ht hf' ht' cA cT cA' cT' hV1 hV2 hFB hTB hX1 hX2 hf1 ht1 hF1 hT1
  have HK0 := hid hk0
  clear hk0
  cases V1 with
  | false =>
    obtain rfl : R = 10 := by rw [← hR]; simp
    clear hR
    go_enter Tryz.func22, Tryz.ntmps22
    go_wp2_with fail
    have hk := HK0.out
    clear HK0
    generalize World.alloc _ _ = wx at hk ⊢
    obtain ⟨⟨x0, x1, x2, x3, x4⟩, ⟨g0, g1, g2, g3, _⟩, n0, _, _⟩ := id hk
    have HK := hid hk
    clear hk
    refine (cV1 _).mono ?_
    rintro e w' ⟨rfl, rfl⟩
    go_wp2
    go_ret
    exact ⟨rfl, HK.out.b⟩
  | true =>
  cases V2 with
  | false =>
    obtain rfl : R = 10 := by rw [← hR]; simp
    clear hR
    go_enter Tryz.func22, Tryz.ntmps22
    go_wp2_with fail
    have hk := HK0.out
    clear HK0
    generalize World.alloc _ _ = wx at hk ⊢
    obtain ⟨⟨x0, x1, x2, x3, x4⟩, ⟨g0, g1, g2, g3, _⟩, n0, _, _⟩ := id hk
    have HK := hid hk
    clear hk
    refine (cV1 _).mono ?_
    rintro e w' ⟨rfl, rfl⟩
    go_wp2_with fail
    refine (cV2 _).mono ?_
    rintro e w' ⟨rfl, rfl⟩
    go_wp2
    go_ret
    exact ⟨rfl, HK.out.b⟩
  | true =>
  rw [if_neg (by simp)] at hR
  by_cases s1 : seats < 1
  · have s1' : decide (seats < 1) = true := decide_eq_true s1
    obtain rfl : R = 3 := by rw [← hR, if_pos (.inl s1)]
    clear hR
    go_enter Tryz.func22, Tryz.ntmps22
    go_wp2_with fail
    have hk := HK0.out
    clear HK0
    generalize World.alloc _ _ = wx at hk ⊢
    obtain ⟨⟨x0, x1, x2, x3, x4⟩, ⟨g0, g1, g2, g3, _⟩, n0, _, _⟩ := id hk
    have HK := hid hk
    clear hk
    refine (cV1 _).mono ?_
    rintro e w' ⟨rfl, rfl⟩
    go_wp2_with fail
    refine (cV2 _).mono ?_
    rintro e w' ⟨rfl, rfl⟩
    go_wp2
    go_ret
    exact ⟨rfl, HK.out.b⟩
  have s1' : decide (seats < 1) = false := decide_eq_false s1
  by_cases s2 : 9999 < seats
  · have s2' : decide (9999 < seats) = true := decide_eq_true s2
    obtain rfl : R = 3 := by rw [← hR, if_pos (.inr s2)]
    clear hR
    go_enter Tryz.func22, Tryz.ntmps22
    go_wp2_with fail
    have hk := HK0.out
    clear HK0
    generalize World.alloc _ _ = wx at hk ⊢
    obtain ⟨⟨x0, x1, x2, x3, x4⟩, ⟨g0, g1, g2, g3, _⟩, n0, _, _⟩ := id hk
    have HK := hid hk
    clear hk
    refine (cV1 _).mono ?_
    rintro e w' ⟨rfl, rfl⟩
    go_wp2_with fail
    refine (cV2 _).mono ?_
    rintro e w' ⟨rfl, rfl⟩
    go_wp2
    go_ret
    exact ⟨rfl, HK.out.b⟩
  have s2' : decide (9999 < seats) = false := decide_eq_false s2
  rw [if_neg (by omega)] at hR
  by_cases z1 : 8 < F1
  · have z1' : (8 : Int) < (F1 : Int) := by omega
    have z1d : decide ((8 : Int) < (F1 : Int)) = true := decide_eq_true z1'
    obtain rfl : R = 2 := by rw [← hR, if_pos (.inl z1)]
    clear hR
    go_enter Tryz.func22, Tryz.ntmps22
    go_wp2_with fail
    have hk := HK0.out
    clear HK0
    generalize World.alloc _ _ = wx at hk ⊢
    obtain ⟨⟨x0, x1, x2, x3, x4⟩, ⟨g0, g1, g2, g3, _⟩, n0, _, _⟩ := id hk
    have HK := hid hk
    clear hk
    refine (cV1 _).mono ?_
    rintro e w' ⟨rfl, rfl⟩
    go_wp2_with fail
    refine (cV2 _).mono ?_
    rintro e w' ⟨rfl, rfl⟩
    go_wp2
    go_ret
    exact ⟨rfl, HK.out.b⟩
  have z1' : ¬ (8 : Int) < (F1 : Int) := by omega
  have z1d : decide ((8 : Int) < (F1 : Int)) = false := decide_eq_false z1'
  by_cases z2 : 24 < T1
  · have z2' : (24 : Int) < (T1 : Int) := by omega
    have z2d : decide ((24 : Int) < (T1 : Int)) = true := decide_eq_true z2'
    obtain rfl : R = 2 := by rw [← hR, if_pos (.inr z2)]
    clear hR
    go_enter Tryz.func22, Tryz.ntmps22
    go_wp2_with fail
    have hk := HK0.out
    clear HK0
    generalize World.alloc _ _ = wx at hk ⊢
    obtain ⟨⟨x0, x1, x2, x3, x4⟩, ⟨g0, g1, g2, g3, _⟩, n0, _, _⟩ := id hk
    have HK := hid hk
    clear hk
    refine (cV1 _).mono ?_
    rintro e w' ⟨rfl, rfl⟩
    go_wp2_with fail
    refine (cV2 _).mono ?_
    rintro e w' ⟨rfl, rfl⟩
    go_wp2
    go_ret
    exact ⟨rfl, HK.out.b⟩
  have z2' : ¬ (24 : Int) < (T1 : Int) := by omega
  have z2d : decide ((24 : Int) < (T1 : Int)) = false := decide_eq_false z2'
  rw [if_neg (by omega)] at hR
  clear z1 z2 s1 s2
  cases FB with
  | false =>
    obtain rfl : R = 10 := by rw [← hR]; simp
    clear hR
    go_enter Tryz.func22, Tryz.ntmps22
    go_wp2_with fail
    have hk := HK0.out
    clear HK0
    generalize World.alloc _ _ = wx at hk ⊢
    obtain ⟨⟨x0, x1, x2, x3, x4⟩, ⟨g0, g1, g2, g3, _⟩, n0, _, _⟩ := id hk
    have HK := hid hk
    clear hk
    refine (cV1 _).mono ?_
    rintro e w' ⟨rfl, rfl⟩
    go_wp2_with fail
    refine (cV2 _).mono ?_
    rintro e w' ⟨rfl, rfl⟩
    go_wp2_with fail
    refine (CA.out _ HK.out.b).mono ?_
    rintro e w' ⟨rfl, rfl⟩
    go_wp2
    go_ret
    exact ⟨rfl, HK.out.b⟩
  | true =>
  rw [if_neg (by simp)] at hR
  cases TB with
  | true =>
    obtain rfl : R = 14 := by rw [← hR]; simp
    clear hR
    go_enter Tryz.func22, Tryz.ntmps22
    go_wp2_with fail
    have hk := HK0.out
    clear HK0
    generalize World.alloc _ _ = wx at hk ⊢
    obtain ⟨⟨x0, x1, x2, x3, x4⟩, ⟨g0, g1, g2, g3, _⟩, n0, _, _⟩ := id hk
    have HK := hid hk
    clear hk
    refine (cV1 _).mono ?_
    rintro e w' ⟨rfl, rfl⟩
    go_wp2_with fail
    refine (cV2 _).mono ?_
    rintro e w' ⟨rfl, rfl⟩
    go_wp2_with fail
    refine (CA.out _ HK.out.b).mono ?_
    rintro e w' ⟨rfl, rfl⟩
    go_wp2_with fail
    refine (CT.out _ HK.out).mono ?_
    rintro e w2 ⟨rfl, hb⟩
    have HB := hid (HK.out.next hb).b
    clear hb
    go_wp2
    go_ret
    exact ⟨rfl, HB.out⟩
  | false =>
    obtain rfl : R = 0 := by rw [← hR]; simp
    clear hR
    go_enter Tryz.func22, Tryz.ntmps22
    go_wp2_with fail
    have hk := HK0.out
    clear HK0
    generalize World.alloc _ _ = wx at hk ⊢
    obtain ⟨⟨x0, x1, x2, x3, x4⟩, ⟨g0, g1, g2, g3, _⟩, n0, _, _⟩ := id hk
    have HK := hid hk
    clear hk
    refine (cV1 _).mono ?_
    rintro e w' ⟨rfl, rfl⟩
    go_wp2_with fail
    refine (cV2 _).mono ?_
    rintro e w' ⟨rfl, rfl⟩
    go_wp2_with fail
    refine (CA.out _ HK.out.b).mono ?_
    rintro e w' ⟨rfl, rfl⟩
    go_wp2_with fail
    refine (CT.out _ HK.out).mono ?_
    rintro e w2 ⟨rfl, hb⟩
    have HB := hid (HK.out.next hb).b
    clear hb
    go_wp2
    go_ret
    exact ⟨rfl, HB.out⟩
end Go.Proofs.YteckefolakjafaaGreatDoor

set_option linter.unusedVariables false
namespace Go.Proofs.YteckefolakjafaaGreatDoor
open Go Go.Proofs Go.RowKit Go.Lib

/-- What holds while a room is written: its box, the grid's. -/
structure KF (w0 : World) (d s b m : Int) (v0 v1 v2 v3 v4 : Value) (w : World) : Prop where
  x : Cells5 w w0.heap.size 0 v0 v1 v2 v3 v4
  g : Box4 w (w0.heap.size + 1) d s b m
  b : Below w0.heap.size w0 w
theorem KF.first (w : World) (d s b m : Int) (v0 v1 v2 v3 v4 : Value) (T : TypeId) :
    KF w d s b m v0 v1 v2 v3 v4 ((w.alloc (.cells #[v0, v1, v2, v3, v4] 46)).alloc (.cells #[.int .i64 d, .int .i64 s, .int .i64 b, .int .i64 m] T)) := by
  have h1 := Box5.new w v0 v1 v2 v3 v4
  have hb1 := (Below.refl w.heap.size w).alloc (Nat.le_refl _) (.cells #[v0, v1, v2, v3, v4] 46)
  have hs : (w.alloc (.cells #[v0, v1, v2, v3, v4] 46)).heap.size = w.heap.size + 1 := by simp
  generalize w.alloc (.cells #[v0, v1, v2, v3, v4] 46) = w1 at h1 hb1 hs ⊢
  have h2 := Box4.new w1 d s b m T
  have hb2 := (Below.refl w1.heap.size w1).alloc (Nat.le_refl _) (.cells #[.int .i64 d, .int .i64 s, .int .i64 b, .int .i64 m] T)
  rw [hs] at h2
  exact ⟨(h1.below hb2 h1.lt).cells, h2, hb1.trans (hb2.mono (by omega))⟩
theorem KF.next {w0 w w' : World} {d s b m : Int} {v0 v1 v2 v3 v4 : Value} (h : KF w0 d s b m v0 v1 v2 v3 v4 w) (k : Below w.heap.size w w') : KF w0 d s b m v0 v1 v2 v3 v4 w' := by
  have hz := h.g.lt
  exact ⟨h.x.below k (by omega), h.g.next k hz, h.b.trans (k.mono h.b.size)⟩
theorem KF.drew {w0 w : World} {d s b m : Int} {v0 v1 v2 v3 v4 : Value} (h : KF w0 d s b m v0 v1 v2 v3 v4 w) : KF w0 d s b m v0 v1 v2 v3 v4 w.drew := h.next (Below.refl _ w).drew
theorem roomM_ok {d s b m n : Int} {r : RoomD} (h : roomM d s b m n r = 0) : (1 ≤ r.2.2.1 ∧ r.2.2.1 ≤ 9999) ∧ r.2.2.2.1.length ≤ 8 ∧ r.2.2.2.2.length ≤ 24 := by
  unfold roomM at h
  split at h
  · simp at h
  · split at h
    · simp at h
    · rename_i h2
      split at h
      · simp at h
      · rename_i h3
        omega

set_option maxHeartbeats 8000000 in
set_option maxRecDepth 100000 in
theorem writeFields_any (d s b m n : Int) (r : RoomD) (q : Room5) (w : World) (h : RoomIn w (fun k => k < w.heap.size) r q) (hv : roomM d s b m n r = 0) (hE : Env7 w) :
    Calls Tryz.prog 15 #[roomV r q, .agg #[.int .i64 d, .int .i64 s, .int .i64 b, .int .i64 m], .int .i64 n] w (S3.RowOut (rowR d s b m n r) w) := by
  obtain ⟨⟨hs1, hs2⟩, hn1, hn2⟩ := roomM_ok hv
  obtain ⟨code, bld, seats, fs, ts⟩ := r
  obtain ⟨A1, c1, A2, c2⟩ := q
  obtain ⟨hf, ht, hf1, hf2, ht1, ht2⟩ := h
  dsimp only at hf ht hf1 hf2 ht1 ht2 hs1 hs2 hn1 hn2
  unfold roomV rowR S3.RowOut
  dsimp only
  have hk0 := KF.first w d s b m (.string (ba code)) (.string (ba bld)) (.int .i64 seats) (.slice A1 fs.length c1) (.slice A2 ts.length c2) 24
  have HE := hid (fun (w' : World) (hb : Below w.heap.size w w') => hE.below hb (Nat.le_refl _))
  have cJ := hid (fun (w' : World) (hb : Below w.heap.size w w') => S3.cjoin_any A1 fs c1 w' ((S3.StrsIn.below hf hb).mono (fun k hk => Nat.lt_of_lt_of_le hk hb.size)) hf1 hf2 (HE.out w' hb).s)
  have cI := hid (fun (w' : World) (hb : Below w.heap.size w w') => itoa4_any seats (by omega) hs2 w' (HE.out w' hb).s)
  have cT := hid (fun (w' : World) (hb : Below w.heap.size w w') => writeTimes_any d s b m n A2 ts c2 w.heap.size w' hb.size (ht.below hb) hn2 (HE.out w' hb))
  have cJ' := cJ.out
  have cI' := cI.out
  have cT' := cT.out
  unfold S3.JoinOut at cJ'
  unfold Says at cI' cT'
  have hj : S3.ba (if S3.checkM fs = 0 then S3.joinM fs else []) = ba (joinT fs) := rfl
  rw [hj] at cJ'
  obtain ⟨X1, hX1⟩ : ∃ X, ba code = X := ⟨_, rfl⟩
  obtain ⟨X2, hX2⟩ : ∃ X, ba bld = X := ⟨_, rfl⟩
  obtain ⟨X3, hX3⟩ : ∃ X, ba (decDigits seats.toNat) = X := ⟨_, rfl⟩
  obtain ⟨X4, hX4⟩ : ∃ X, ba (joinT fs) = X := ⟨_, rfl⟩
  obtain ⟨X5, hX5⟩ : ∃ X, ba (timesS d s b m n ts) = X := ⟨_, rfl⟩
  have hrow : Hid (S3.strVals [code, bld, decDigits seats.toNat, joinT fs, timesS d s b m n ts] = [.string X1, .string X2, .string X3, .string X4, .string X5]) := hid (by rw [← hX1, ← hX2, ← hX3, ← hX4, ← hX5]; rfl)
  rw [hX1, hX2] at hk0
  rw [hX3] at cI'
  rw [hX4] at cJ'
  rw [hX5] at cT'
  rw [hX1, hX2]
  obtain ⟨F1, hF1⟩ : ∃ F, fs.length = F := ⟨_, rfl⟩
  obtain ⟨T1, hT1⟩ : ∃ F, ts.length = F := ⟨_, rfl⟩
  rw [hF1] at hk0 cJ' ⊢
  rw [hT1] at hk0 cT' ⊢
  have CJ := hid cJ'
  have CI := hid cI'
  have CT := hid cT'
  have HK0 := hid hk0
  clear hf ht cJ cI cT cJ' cI' cT' hX1 hX2 hX3 hX4 hX5 hF1 hT1 hk0 HE hE hv hj hf1 ht1 hn1 hn2 hs1 hs2
  go_enter Tryz.func15, Tryz.ntmps15
  go_wp2_with fail
  have hk := HK0.out
  clear HK0
  generalize World.alloc _ _ = wx at hk ⊢
  obtain ⟨⟨x0, x1, x2, x3, x4⟩, ⟨g0, g1, g2, g3, _⟩, _⟩ := id hk
  refine (CJ.out _ hk.b).mono ?_
  rintro e w1 ⟨rfl, hb1⟩
  have HK1 := hid (hk.next hb1)
  clear hb1 hk x0 x1 x2 x3 x4 g0 g1 g2 g3
  go_wp2_with fail
  refine wp_region_held_drew (S := KF w d s b m (.string X1) (.string X2) (.int .i64 seats) (.slice A1 F1 c1) (.slice A2 T1 c2)) (by kernel_rfl) HK1.out.drew (fun hHeld => ?_)
  (refine wpAnyH_take (i := 0) (oi := _) (v := ?_) rfl (by kernel_rfl) (by kernel_rfl) (by kernel_rfl) (fun _ _ _ h => h) (Or.inl ⟨by rfl, ?_⟩) (by assumption) ?_; rotate_left; (intro wS hSw; obtain ⟨⟨x0, x1, x2, x3, x4⟩, ⟨g0, g1, g2, g3, _⟩, _⟩ := hSw; (try simp only [List.getElem_toArray, List.getElem_cons_succ, List.getElem_cons_zero]); go_simp; (try with_reducible rfl)))
  try simp only [List.getElem_toArray, List.getElem_cons_succ, List.getElem_cons_zero, Act.put, List.setIfInBounds_toArray, List.set_cons_zero, List.set_cons_succ]
  (refine wpAnyH_take (i := 1) (oi := _) (v := ?_) rfl (by kernel_rfl) (by kernel_rfl) (by kernel_rfl) (fun _ _ _ h => h) (Or.inl ⟨by rfl, ?_⟩) (by assumption) ?_; rotate_left; (intro wS hSw; obtain ⟨⟨x0, x1, x2, x3, x4⟩, ⟨g0, g1, g2, g3, _⟩, _⟩ := hSw; (try simp only [List.getElem_toArray, List.getElem_cons_succ, List.getElem_cons_zero]); go_simp; (try with_reducible rfl)))
  try simp only [List.getElem_toArray, List.getElem_cons_succ, List.getElem_cons_zero, Act.put, List.setIfInBounds_toArray, List.set_cons_zero, List.set_cons_succ]
  (refine wpAnyH_take (i := 2) (oi := _) (v := ?_) rfl (by kernel_rfl) (by kernel_rfl) (by kernel_rfl) (fun _ _ _ h => h) (Or.inl ⟨by rfl, ?_⟩) (by assumption) ?_; rotate_left; (intro wS hSw; obtain ⟨⟨x0, x1, x2, x3, x4⟩, ⟨g0, g1, g2, g3, _⟩, _⟩ := hSw; (try simp only [List.getElem_toArray, List.getElem_cons_succ, List.getElem_cons_zero]); go_simp; (try with_reducible rfl)))
  try simp only [List.getElem_toArray, List.getElem_cons_succ, List.getElem_cons_zero, Act.put, List.setIfInBounds_toArray, List.set_cons_zero, List.set_cons_succ]
  (refine wpAnyH_take (i := 3) (oi := _) (v := ?_) rfl (by kernel_rfl) (by kernel_rfl) (by kernel_rfl) (fun _ _ _ h => h) (Or.inl ⟨by rfl, ?_⟩) (by assumption) ?_; rotate_left; (intro wS hSw; obtain ⟨⟨x0, x1, x2, x3, x4⟩, ⟨g0, g1, g2, g3, _⟩, _⟩ := hSw; (try simp only [List.getElem_toArray, List.getElem_cons_succ, List.getElem_cons_zero]); go_simp; (try with_reducible rfl)))
  try simp only [List.getElem_toArray, List.getElem_cons_succ, List.getElem_cons_zero, Act.put, List.setIfInBounds_toArray, List.set_cons_zero, List.set_cons_succ]
  (refine wpAnyH_take (i := 4) (oi := _) (v := ?_) rfl (by kernel_rfl) (by kernel_rfl) (by kernel_rfl) (fun _ _ _ h => h) (Or.inl ⟨by rfl, ?_⟩) (by assumption) ?_; rotate_left; (intro wS hSw; obtain ⟨⟨x0, x1, x2, x3, x4⟩, ⟨g0, g1, g2, g3, _⟩, _⟩ := hSw; (try simp only [List.getElem_toArray, List.getElem_cons_succ, List.getElem_cons_zero]); go_simp; (try with_reducible rfl)))
  try simp only [List.getElem_toArray, List.getElem_cons_succ, List.getElem_cons_zero, Act.put, List.setIfInBounds_toArray, List.set_cons_zero, List.set_cons_succ]
  (refine wpAnyH_take (i := 5) (oi := _) (v := ?_) rfl (by kernel_rfl) (by kernel_rfl) (by kernel_rfl) (fun _ _ _ h => h) (Or.inl ⟨by rfl, ?_⟩) (by assumption) ?_; rotate_left; (intro wS hSw; obtain ⟨⟨x0, x1, x2, x3, x4⟩, ⟨g0, g1, g2, g3, _⟩, _⟩ := hSw; (try simp only [List.getElem_toArray, List.getElem_cons_succ, List.getElem_cons_zero]); go_simp; (try with_reducible rfl)))
  try simp only [List.getElem_toArray, List.getElem_cons_succ, List.getElem_cons_zero, Act.put, List.setIfInBounds_toArray, List.set_cons_zero, List.set_cons_succ]
  (refine wpAnyH_take (i := 7) (oi := _) (v := ?_) rfl (by kernel_rfl) (by kernel_rfl) (by kernel_rfl) (fun _ _ _ h => h) (Or.inl ⟨by rfl, ?_⟩) (by assumption) ?_; rotate_left; (intro wS hSw; obtain ⟨⟨x0, x1, x2, x3, x4⟩, ⟨g0, g1, g2, g3, _⟩, _⟩ := hSw; (try simp only [List.getElem_toArray, List.getElem_cons_succ, List.getElem_cons_zero]); go_simp; (try with_reducible rfl)))
  try simp only [List.getElem_toArray, List.getElem_cons_succ, List.getElem_cons_zero, Act.put, List.setIfInBounds_toArray, List.set_cons_zero, List.set_cons_succ]
  (refine wpAnyH_take (i := 8) (oi := _) (v := ?_) rfl (by kernel_rfl) (by kernel_rfl) (by kernel_rfl) (fun _ _ _ h => h) (Or.inl ⟨by rfl, ?_⟩) (by assumption) ?_; rotate_left; (intro wS hSw; obtain ⟨⟨x0, x1, x2, x3, x4⟩, ⟨g0, g1, g2, g3, _⟩, _⟩ := hSw; (try simp only [List.getElem_toArray, List.getElem_cons_succ, List.getElem_cons_zero]); go_simp; (try with_reducible rfl)))
  try simp only [List.getElem_toArray, List.getElem_cons_succ, List.getElem_cons_zero, Act.put, List.setIfInBounds_toArray, List.set_cons_zero, List.set_cons_succ]
  (refine wpAnyH_take (i := 9) (oi := _) (v := ?_) rfl (by kernel_rfl) (by kernel_rfl) (by kernel_rfl) (fun _ _ _ h => h) (Or.inl ⟨by rfl, ?_⟩) (by assumption) ?_; rotate_left; (intro wS hSw; obtain ⟨⟨x0, x1, x2, x3, x4⟩, ⟨g0, g1, g2, g3, _⟩, _⟩ := hSw; (try simp only [List.getElem_toArray, List.getElem_cons_succ, List.getElem_cons_zero]); go_simp; (try with_reducible rfl)))
  try simp only [List.getElem_toArray, List.getElem_cons_succ, List.getElem_cons_zero, Act.put, List.setIfInBounds_toArray, List.set_cons_zero, List.set_cons_succ]
  (refine wpAnyH_take (i := 10) (oi := _) (v := ?_) rfl (by kernel_rfl) (by kernel_rfl) (by kernel_rfl) (fun _ _ _ h => h) (Or.inl ⟨by rfl, ?_⟩) (by assumption) ?_; rotate_left; (intro wS hSw; obtain ⟨⟨x0, x1, x2, x3, x4⟩, ⟨g0, g1, g2, g3, _⟩, _⟩ := hSw; (try simp only [List.getElem_toArray, List.getElem_cons_succ, List.getElem_cons_zero]); go_simp; (try with_reducible rfl)))
  try simp only [List.getElem_toArray, List.getElem_cons_succ, List.getElem_cons_zero, Act.put, List.setIfInBounds_toArray, List.set_cons_zero, List.set_cons_succ]
  (refine wpAnyH_take (i := 11) (oi := _) (v := ?_) rfl (by kernel_rfl) (by kernel_rfl) (by kernel_rfl) (fun _ _ _ h => h) (Or.inl ⟨by rfl, ?_⟩) (by assumption) ?_; rotate_left; (intro wS hSw; obtain ⟨⟨x0, x1, x2, x3, x4⟩, ⟨g0, g1, g2, g3, _⟩, _⟩ := hSw; (try simp only [List.getElem_toArray, List.getElem_cons_succ, List.getElem_cons_zero]); go_simp; (try with_reducible rfl)))
  try simp only [List.getElem_toArray, List.getElem_cons_succ, List.getElem_cons_zero, Act.put, List.setIfInBounds_toArray, List.set_cons_zero, List.set_cons_succ]
  (refine wpAnyH_ready (rs := [6]) (by kernel_rfl) (by simp) ?_; refine AllReadyH.cons (o := _) rfl (fun K hK => ?_) AllReadyH.nil; (try simp only [List.getElem_toArray, List.getElem_cons_succ, List.getElem_cons_zero]); go_simp; go_at_call 36; refine (CI.out _ hHeld.b).mono ?_; rintro e w2 ⟨rfl, hb2⟩; have hHeld := hHeld.next hb2; clear hb2; go_wp2_with fail; refine hK.out _ _ hHeld (fun hHeld => ?_); clear hK K)
  try simp only [List.getElem_toArray, List.getElem_cons_succ, List.getElem_cons_zero, Act.put, List.setIfInBounds_toArray, List.set_cons_zero, List.set_cons_succ]
  (refine wpAnyH_ready (rs := [12]) (by kernel_rfl) (by simp) ?_; refine AllReadyH.cons (o := _) rfl (fun K hK => ?_) AllReadyH.nil; (try simp only [List.getElem_toArray, List.getElem_cons_succ, List.getElem_cons_zero]); go_simp; go_at_call 37; refine (CT.out _ hHeld.b).mono ?_; rintro e w3 ⟨rfl, hb3⟩; have hHeld := hHeld.next hb3; have HW3 := hid hHeld.b.size; clear hb3; go_wp2_with fail; refine hK.out _ _ hHeld (fun hHeld => ?_); clear hK K)
  try simp only [List.getElem_toArray, List.getElem_cons_succ, List.getElem_cons_zero, Act.put, List.setIfInBounds_toArray, List.set_cons_zero, List.set_cons_succ]
  (refine wpAnyH_ready (rs := [13]) (by kernel_rfl) (by simp) ?_; refine AllReadyH.cons (o := _) rfl (fun K hK => ?_) AllReadyH.nil; (try simp only [List.getElem_toArray, List.getElem_cons_succ, List.getElem_cons_zero]); go_simp; go_wp2_with fail; refine hK.out _ _ (hHeld.next ((Below.refl _ _).alloc (Nat.le_refl _) _)) (fun hHeld => ?_); clear hK K)
  try simp only [List.getElem_toArray, List.getElem_cons_succ, List.getElem_cons_zero, Act.put, List.setIfInBounds_toArray, List.set_cons_zero, List.set_cons_succ]
  (refine wpAnyH_take (i := 14) (oi := _) (v := ?_) rfl (by kernel_rfl) (by kernel_rfl) (by kernel_rfl) (fun _ _ _ h => h) (Or.inl ⟨by rfl, ?_⟩) (by assumption) ?_; rotate_left; (intro wS hSw; obtain ⟨⟨x0, x1, x2, x3, x4⟩, ⟨g0, g1, g2, g3, _⟩, _⟩ := hSw; (try simp only [List.getElem_toArray, List.getElem_cons_succ, List.getElem_cons_zero]); go_simp; (try with_reducible rfl)))
  try simp only [List.getElem_toArray, List.getElem_cons_succ, List.getElem_cons_zero, Act.put, List.setIfInBounds_toArray, List.set_cons_zero, List.set_cons_succ]
  refine wpAnyH_done (by kernel_rfl) ?_ _
  go_wp2_with fail
  go_ret
  refine ⟨⟨_, rfl, ?_⟩, hHeld.b⟩
  unfold S3.StrRow
  rw [hrow.out]
  exact World.ownsRow_lit w3 #[.string X1, .string X2, .string X3, .string X4, .string X5] 5 HW3.out (by decide) rfl
end Go.Proofs.YteckefolakjafaaGreatDoor

