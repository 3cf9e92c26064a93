/-
  Natural order: the reference's element, bare, order. Conditions: the strings fit into memory.
  Natural order: the reference's Compare. Conditions: the strings fit into memory.
-/
import Derived.Test.YtdpfpkhbcdefmaaGreatDoorQN01
import Derived.Test.YtdpfpkhbcdefmaaGreatDoorQN02
import Derived.Test.YtdpfpkhbcdefmaaGreatDoorQN03
import Derived.Lib.Bytealg
import Derived.Test.YtdpfpkhbcdefmaaGreatDoorProg
import Derived.WalkKit
import Derived.WalkSpells
import Derived.WalkLawsBesides
import Derived.Lib.Hide
import Derived.Deep.QuietTactic
import Derived.BigQuiet
import Derived.Laws.Rows
import Derived.OwnWalk
import Derived.Lib.BufferWrite
import Derived.Lib.UnsafeStr
import Derived.Laws.IdiomStrings
import Derived.Laws.BytesArg
import Derived.Laws.BytesString
import Derived.Shelf.Strings.Builder1
import Derived.Shelf.Strings.Builder2
import Derived.Shelf.Strings.OnBuilder
import Derived.Shelf.Strings.Trim
import Derived.Shelf.Small.Utf8
import Derived.Shelf.Small.Bits
import Derived.Shelf.Small.Strs
import Derived.Shelf.Small.Wraps
import Derived.Shelf.Strings.BuilderF
import Derived.Shelf.Strings.BuilderK
import Derived.Shelf.Strings.Builder2Cap
import Derived.Shelf.Strconv.Atoi
import Derived.Shelf.Strconv.Itoa0
import Derived.Shelf.Strconv.Itoa1
import Derived.Shelf.LaysM
import Derived.Shelf.Strconv.Itoa2
import Derived.Shelf.Strconv.Itoa3
import Derived.Shelf.Strconv.AtoiErrFast
import Derived.Shelf.Strconv.ParseIntEmpty
import Derived.Shelf.Strconv.AtoiFail
import Derived.Shelf.Strconv.Clone
import Derived.Shelf.Strconv.SyntaxError
import Derived.Shelf.LaysC
import Derived.Shelf.Strconv.ToError
import Derived.Shelf.Strconv.AtoiErr
import Derived.Shelf.Strings.Search1
import Derived.Shelf.Strings.Search2
import Derived.Shelf.Strings.Search3
import Derived.Shelf.Strings.Cut
import Derived.Shelf.Strings.Shaped
import Derived.Shelf.Strings.Prefix
import Derived.Shelf.Strings.Runes
import Derived.Shelf.Strings.AsciiSet
import Derived.Shelf.Bits.Mul64
import Derived.Shelf.Strings.Repeat
import Derived.Shelf.Unicode.DecodeSlow
import Derived.Shelf.Strings.BuilderCap
import Derived.Shelf.Slices.Turned
import Derived.Ground.Names2Prog
import Derived.Shelf.Slices.Clone
import Derived.Ground.SlsfProg
import Derived.Shelf.SlSortCmp.Insertion
import Derived.Shelf.SlSortCmp.Insertion1
set_option linter.unusedVariables false
namespace Go.Proofs.YtdpfpkhbcdefmaaGreatDoor.S3
open Go Go.Proofs Go.RowKit Go.Lib Go.Proofs.YtdpfpkhbcdefmaaGreatDoor

theorem ex_drew {w w' : World} (h : ∃ q, w' = w.drewN q) (n : Nat) : ∃ q, w'.drewN n = w.drewN q := by
  obtain ⟨q, rfl⟩ := h
  exact ⟨q + n, by rw [World.drewN_drewN]⟩
/-- What element hands back. -/
def ElemOut (s : ByteArray) (w : World) (e : Ending) (w' : World) : Prop :=
  (∃ X Y : ByteArray, e = .returned (.tuple #[.string X, .string Y]) ∧ lst X = (lst s).take (elemN (lst s)) ∧ lst Y = (lst s).drop (elemN (lst s))) ∧ ∃ q, w' = w.drewN q

set_option maxHeartbeats 4000000 in
set_option maxRecDepth 100000 in
theorem element_any (s : ByteArray) (h0 : 0 < s.size) (hs : s.size ≤ 9223372036854775807) (w : World) : Calls Tryz.prog 55 #[.string s] w (ElemOut s w) := by
  have hl0 : 0 < (lst s).length := by rw [← Lib.size_eq]; exact h0
  have hst := fun k hk h => elemN_step (lst s) hl0 k hk h
  have hsp := fun k hk h => elemN_stop (lst s) hl0 k hk h
  rw [show (lst s)[0] = s[0]'h0 from rfl] at hst hsp
  obtain ⟨x0, hx0⟩ : ∃ x, s[0]'h0 = x := ⟨_, rfl⟩
  rw [show dg (s[0]'h0) = dg x0 by rw [hx0]] at hst hsp
  have c0 := digit_any x0
  obtain ⟨d, hd⟩ : ∃ d, dg x0 = d := ⟨_, rfl⟩
  rw [hd] at hst hsp c0
  have HST := hid hst
  have HSP := hid hsp
  have h1 := hid (elemN_pos (lst s) (lst_ne h0))
  clear hst hsp hd
  go_enter Tryz.func55, Tryz.ntmps55
  go_wp2
  go_loopw [4] (fun i wr => ∃ (k : Nat), 1 ≤ k ∧ k ≤ s.size ∧ i = .int .i64 (k : Int) ∧ Hid (k ≤ elemN (lst s)) ∧ Hid (∃ q, wr = w.drewN q)) (fun i _ => s.size - (RowKit.intOf i).toNat)
  case atStart => exact ⟨1, Nat.le_refl _, h0, rfl, h1, hid ⟨0, rfl⟩⟩
  case round =>
    obtain ⟨k, hk1, hk, rfl, hle, hD⟩ := hrel
    by_cases hlt : k < s.size
    · have hltz : (k : Int) < (s.size : Int) := by omega
      have hltd : decide ((k : Int) < (s.size : Int)) = true := decide_eq_true hltz
      have hltn : decide (k < s.size) = true := decide_eq_true hlt
      have hlt' : k < (lst s).length := by rw [← Lib.size_eq]; exact hlt
      have h1 := HST.out k hlt' hle.out
      have h2 := HSP.out k hlt' hle.out
      have e1 : (lst s)[k] = s[k]'hlt := rfl
      rw [e1] at h1 h2
      obtain ⟨x, hx⟩ : ∃ x, s[k]'hlt = x := ⟨_, rfl⟩
      rw [hx] at h1 h2
      have cX := digit_any x
      have H1 := hid h1
      have H2 := hid h2
      clear h1 h2 e1
      by_cases hdx : dg x = d
      · have hN : Hid (k + 1 ≤ elemN (lst s)) := hid (H1.out hdx)
        rw [hdx] at cX
        have hdd : (d == d) = true := by simp
        clear hdx H1 H2
        go_wp2
        go_quiet ((first | (go_at_call_of 56 x.toNat; with_reducible refine Calls.quiet_of_same ((cX _).mono fun _ _ h => ⟨h.1, h.2.symm⟩)) | (go_at_call_of 56 x0.toNat; with_reducible refine Calls.quiet_of_same ((c0 _).mono fun _ _ h => ⟨h.1, h.2.symm⟩))))
        go_wp2
        go_roundw
        case rel => exact ⟨k + 1, by omega, by omega, by go_num, hN, hid (ex_drew hD.out _)⟩
        case measure => simp [RowKit.intOf]; omega
      · have hN : Hid (elemN (lst s) = k) := hid (H2.out hdx)
        have hdd : (dg x == d) = false := by simpa using hdx
        clear hdx H1 H2
        have hkz : (0 : Int) ≤ (k : Int) := by omega
        have hkz2 : (k : Int) ≤ (s.size : Int) := by omega
        go_wp2
        go_quiet ((first | (go_at_call_of 56 x.toNat; with_reducible refine Calls.quiet_of_same ((cX _).mono fun _ _ h => ⟨h.1, h.2.symm⟩)) | (go_at_call_of 56 x0.toNat; with_reducible refine Calls.quiet_of_same ((c0 _).mono fun _ _ h => ⟨h.1, h.2.symm⟩))))
        go_wp2
        go_quiet (fail)
        go_wp2
        go_ret2
        unfold ElemOut
        refine ⟨⟨_, _, rfl, ?_, ?_⟩, ex_drew (ex_drew hD.out _) _⟩
        · rw [lst_extract, hN.out]; simp
        · rw [lst_extract, hN.out, List.take_of_length_le (by rw [← Lib.size_eq]; exact Nat.le_refl _)]
    · have hltz : ¬ (k : Int) < (s.size : Int) := by omega
      have hltd : decide ((k : Int) < (s.size : Int)) = false := decide_eq_false hltz
      have hltn : decide (k < s.size) = false := decide_eq_false hlt
      have hks : k = s.size := by omega
      have hN : Hid (elemN (lst s) = k) := hid (by
        have := elemN_le (lst s)
        have h2 := hle.out
        have e : s.size = (lst s).length := Lib.size_eq s
        omega)
      have hkz : (0 : Int) ≤ (k : Int) := by omega
      have hkz2 : (k : Int) ≤ (s.size : Int) := by omega
      clear hks
      go_wp2
      go_quiet (fail)
      go_wp2
      go_quiet (fail)
      go_wp2
      go_ret2
      unfold ElemOut
      refine ⟨⟨_, _, rfl, ?_, ?_⟩, ex_drew (ex_drew hD.out _) _⟩
      · rw [lst_extract, hN.out]; simp
      · rw [lst_extract, hN.out, List.take_of_length_le (by rw [← Lib.size_eq]; exact Nat.le_refl _)]

theorem bareS_step (S : ByteArray) (h : 0 < S.size) (e : S[0]'h = 48) : bareS (lst (S.extract 1 S.size)) = bareS (lst S) := by
  rw [lst_extract, List.take_of_length_le (by rw [← Lib.size_eq]; exact Nat.le_refl _)]
  have h' : 0 < (lst S).length := by rw [← Lib.size_eq]; exact h
  cases hl : lst S with
  | nil => rw [hl] at h'; simp at h'
  | cons c r =>
    have : c = 48 := by
      have e2 : (lst S)[0] = S[0]'h := rfl
      rw [e] at e2
      simpa [hl] using e2
    subst this
    simp [bareS]
theorem bareS_stop (S : ByteArray) (h : 0 < S.size) (e : S[0]'h ≠ 48) : bareS (lst S) = lst S := by
  have h' : 0 < (lst S).length := by rw [← Lib.size_eq]; exact h
  cases hl : lst S with
  | nil => rfl
  | cons c r =>
    have : c ≠ 48 := by
      have e2 : (lst S)[0] = S[0]'h := rfl
      rw [← e2] at e
      simpa [hl] using e
    simp [bareS, this]

set_option maxHeartbeats 4000000 in
set_option maxRecDepth 100000 in
theorem bare_any (s : ByteArray) (hs : s.size ≤ 9223372036854775807) (w : World) : Calls Tryz.prog 57 #[.string s] w fun e w' => (∃ A : ByteArray, e = .returned (.string A) ∧ lst A = bareS (lst s) ∧ A.size ≤ s.size) ∧ w = w' := by
  go_enter Tryz.func57, Tryz.ntmps57
  go_wp2
  go_loop [0] (fun v => ∃ S : ByteArray, v = .string S ∧ S.size ≤ s.size ∧ Hid (bareS (lst S) = bareS (lst s))) (fun v => strSize v)
  case atStart => exact ⟨s, rfl, Nat.le_refl _, hid rfl⟩
  case round =>
    obtain ⟨S, rfl, hSs, hE⟩ := hrel
    by_cases hlt : 0 < S.size
    · have hltz : (0 : Int) < (S.size : Int) := by omega
      have h1z : (1 : Int) ≤ (S.size : Int) := by omega
      have hs1 := bareS_step S hlt
      have hs2 := bareS_stop S hlt
      obtain ⟨x, hx⟩ : ∃ x, S[0]'hlt = x := ⟨_, rfl⟩
      rw [hx] at hs1 hs2
      by_cases h48 : x = 48
      · have hz : ((x.toNat : Int) == 48) = true := by rw [h48]; rfl
        have hn := hid (hs1 h48)
        clear h48 hs1 hs2
        go_wp2
        go_round
        case rel => exact ⟨_, rfl, by rw [ByteArray.size_extract]; omega, by rw [hn.out]; exact hE⟩
        case measure =>
          show (S.extract 1 S.size).size < S.size
          rw [ByteArray.size_extract]
          omega
      · have hz : ((x.toNat : Int) == 48) = false := by
          have : x.toNat ≠ 48 := fun e => h48 (UInt8.toNat_inj.1 e)
          simp
          omega
        have hn := hid (hs2 h48)
        clear h48 hs1 hs2
        go_wp2
        go_ret
        exact ⟨⟨S, rfl, by rw [← hE.out, hn.out], hSs⟩, rfl⟩
    · have hltz : ¬ (0 : Int) < (S.size : Int) := by omega
      have hn := hid (lst_nil hlt)
      go_wp2
      go_ret
      exact ⟨⟨S, rfl, by rw [← hE.out, hn.out]; rfl, hSs⟩, rfl⟩

theorem less_cases : ∀ (a b : Str), (Op.bytesLess a b = true ∧ compareBytes a b = -1) ∨ (Op.bytesLess a b = false ∧ (a == b) = false ∧ compareBytes a b = 1) ∨ (Op.bytesLess a b = false ∧ (a == b) = true ∧ compareBytes a b = 0)
  | [], [] => .inr (.inr ⟨rfl, rfl, rfl⟩)
  | [], _ :: _ => .inl ⟨rfl, rfl⟩
  | _ :: _, [] => .inr (.inl ⟨rfl, rfl, rfl⟩)
  | x :: a, y :: b => by
    have ih := less_cases a b
    unfold Op.bytesLess compareBytes
    by_cases h1 : x < y
    · exact .inl ⟨by simp [h1], by rw [if_pos h1]⟩
    · have hd : decide (x < y) = false := by simpa using h1
      rw [hd, if_neg h1]
      by_cases h2 : y < x
      · have hne : ¬ x = y := by
          rw [UInt8.lt_iff_toNat_lt] at h2
          intro e
          rw [e] at h2
          omega
        have hb : (x == y) = false := by simpa using hne
        rw [if_pos h2, hb]
        exact .inr (.inl ⟨rfl, by simp [hne], rfl⟩)
      · have he : x = y := by
          rw [UInt8.lt_iff_toNat_lt] at h1 h2
          exact UInt8.toNat_inj.1 (by omega)
        subst he
        rw [if_neg h2, show (x == x) = true by simp, show ((x :: a) == (x :: b)) = (a == b) by simp]
        simpa using ih

set_option maxHeartbeats 1000000 in
theorem order_any (a b : ByteArray) (w : World) : Calls Tryz.prog 58 #[.string a, .string b] w fun e w' => e = .returned (.int .i64 (compareBytes (lst a) (lst b))) ∧ w = w' := by
  have h := less_cases a.toList b.toList
  rw [Lib.toList_data, Lib.toList_data] at h
  change (Op.bytesLess (lst a) (lst b) = true ∧ compareBytes (lst a) (lst b) = -1) ∨ (Op.bytesLess (lst a) (lst b) = false ∧ ((lst a) == (lst b)) = false ∧ compareBytes (lst a) (lst b) = 1) ∨ (Op.bytesLess (lst a) (lst b) = false ∧ ((lst a) == (lst b)) = true ∧ compareBytes (lst a) (lst b) = 0) at h
  rcases h with ⟨h1, e⟩ | ⟨h1, h2, e⟩ | ⟨h1, h2, e⟩ <;> rw [e] <;> clear e
  · have h1' : Op.bytesLess a.toList b.toList = true := by rw [Lib.toList_data, Lib.toList_data]; exact h1
    clear h1
    go_enter Tryz.func58, Tryz.ntmps58
    go_wp2
    go_ret
    exact ⟨rfl, rfl⟩
  · have h1' : Op.bytesLess a.toList b.toList = false := by rw [Lib.toList_data, Lib.toList_data]; exact h1
    have h2' : (a.toList == b.toList) = false := by rw [Lib.toList_data, Lib.toList_data]; exact h2
    clear h1 h2
    go_enter Tryz.func58, Tryz.ntmps58
    go_wp2
    go_ret
    exact ⟨rfl, rfl⟩
  · have h1' : Op.bytesLess a.toList b.toList = false := by rw [Lib.toList_data, Lib.toList_data]; exact h1
    have h2' : (a.toList == b.toList) = true := by rw [Lib.toList_data, Lib.toList_data]; exact h2
    clear h1 h2
    go_enter Tryz.func58, Tryz.ntmps58
    go_wp2
    go_ret
    exact ⟨rfl, rfl⟩
end Go.Proofs.YtdpfpkhbcdefmaaGreatDoor.S3

set_option linter.unusedVariables false
namespace Go.Proofs.YtdpfpkhbcdefmaaGreatDoor.S3
open Go Go.Proofs Go.RowKit Go.Lib Go.Proofs.YtdpfpkhbcdefmaaGreatDoor

theorem ex_trans {a b c : World} (h : ∃ q, b = a.drewN q) (k : ∃ q, c = b.drewN q) : ∃ q, c = a.drewN q := by
  obtain ⟨q, rfl⟩ := h
  obtain ⟨r, rfl⟩ := k
  exact ⟨q + r, by rw [World.drewN_drewN]⟩

set_option maxHeartbeats 8000000 in
set_option maxRecDepth 100000 in
theorem refCompare_any (a b : ByteArray) (ha : a.size ≤ 9223372036854775807) (hb : b.size ≤ 9223372036854775807) (w : World) :
    Calls Tryz.prog 32 #[.string a, .string b] w fun e w' => e = .returned (.int .i64 (cmpM (lst a) (lst b))) ∧ ∃ q, w' = w.drewN q := by
  rw [cmpM_or]
  obtain ⟨LX, hLX⟩ : ∃ x, lexC cmpE (elems (lst a)) (elems (lst b)) = x := ⟨_, rfl⟩
  have cS := order_any a b
  obtain ⟨y, hy⟩ : ∃ y, compareBytes (lst a) (lst b) = y := ⟨_, rfl⟩
  rw [hy] at cS ⊢
  rw [hLX]
  have HLX := hid hLX
  clear hLX hy
  go_enter Tryz.func32, Tryz.ntmps32
  go_wp2
  go_loopw [5, 6, 7, 8, 9, 10, 11, 12, 13] (fun xv yv _ _ _ _ _ _ _ wr => ∃ X Y : ByteArray, xv = .string X ∧ yv = .string Y ∧ X.size ≤ a.size ∧ Y.size ≤ b.size ∧ Hid (LX = lexC cmpE (elems (lst X)) (elems (lst Y))) ∧ Hid (∃ q, wr = w.drewN q)) (fun xv _ _ _ _ _ _ _ _ _ => strSize xv)
  case atStart => exact ⟨a, b, rfl, rfl, Nat.le_refl _, Nat.le_refl _, hid HLX.out.symm, hid ⟨0, rfl⟩⟩
  case round =>
    obtain ⟨X, Y, rfl, rfl, hXs, hYs, hE, hD⟩ := hrel
    by_cases hx : 0 < X.size
    · by_cases hy : 0 < Y.size
      · have CX := hid (fun w => element_any X hx (by omega) w)
        have CY := hid (fun w => element_any Y hy (by omega) w)
        have hst := hid (lex_step (lst X) (lst Y) (lst_ne hx) (lst_ne hy))
        have pX := elemN_pos _ (lst_ne hx)
        have pY := elemN_pos _ (lst_ne hy)
        have lX := elemN_le (lst X)
        have lY := elemN_le (lst Y)
        rw [show (lst X).length = X.size from (Lib.size_eq X).symm] at lX
        rw [show (lst Y).length = Y.size from (Lib.size_eq Y).symm] at lY
        obtain ⟨x1, x2, x3, _⟩ := str_no hx
        obtain ⟨y1, y2, y3, _⟩ := str_no hy
        go_wp2_with fail
        refine (CX.out _).mono ?_
        rintro e w1 ⟨⟨P, X', rfl, hP, hX'⟩, hq1⟩
        have sP : P.size = elemN (lst X) := by rw [Lib.size_eq, show P.data.toList = _ from hP, List.length_take, show (lst X).length = X.size from (Lib.size_eq X).symm]; omega
        have sX' : X'.size = X.size - elemN (lst X) := by rw [Lib.size_eq, show X'.data.toList = _ from hX', List.length_drop, show (lst X).length = X.size from (Lib.size_eq X).symm]
        have HP := hid hP
        have HX' := hid hX'
        have HD1 := hid (ex_trans hD.out hq1)
        have hP0 : 0 < P.size := by omega
        have hPs : P.size ≤ 9223372036854775807 := by omega
        have hXl : X'.size < X.size := by omega
        clear hP hX' hq1 hD x1 x2 x3 y1 y2 y3
        go_wp2_with fail
        refine (CY.out _).mono ?_
        rintro e w2 ⟨⟨Q, Y', rfl, hQ, hY'⟩, hq2⟩
        have sQ : Q.size = elemN (lst Y) := by rw [Lib.size_eq, show Q.data.toList = _ from hQ, List.length_take, show (lst Y).length = Y.size from (Lib.size_eq Y).symm]; omega
        have sY' : Y'.size = Y.size - elemN (lst Y) := by rw [Lib.size_eq, show Y'.data.toList = _ from hY', List.length_drop, show (lst Y).length = Y.size from (Lib.size_eq Y).symm]
        have HQ := hid hQ
        have HY' := hid hY'
        have HD2 := hid (ex_trans HD1.out hq2)
        have hQ0 : 0 < Q.size := by omega
        have hQs : Q.size ≤ 9223372036854775807 := by omega
        have hYl : Y'.size < Y.size := by omega
        clear hQ hY' hq2 sP sX' sQ sY' HD1 CX CY
        have hc : Hid (LX = if cmpE (lst P) (lst Q) = 0 then lexC cmpE (elems (lst X')) (elems (lst Y')) else cmpE (lst P) (lst Q)) := hid (by rw [hE.out, hst.out, HP.out, HQ.out, HX'.out, HY'.out])
        have na := numS_eq P hP0
        have nb := numS_eq Q hQ0
        have cA := digit_any (P[0]'hP0)
        have cB := digit_any (Q[0]'hQ0)
        obtain ⟨u, hu⟩ : ∃ x, P[0]'hP0 = x := ⟨_, rfl⟩
        obtain ⟨v, hv⟩ : ∃ x, Q[0]'hQ0 = x := ⟨_, rfl⟩
        rw [hu] at na cA
        rw [hv] at nb cB
        have eT := cmpE_texts (lst P) (lst Q)
        have eN := cmpE_nums' (lst P) (lst Q)
        have eX := cmpE_num (lst P) (lst Q)
        have eY := cmpE_other (lst P) (lst Q)
        obtain ⟨c, hcc⟩ : ∃ c, cmpE (lst P) (lst Q) = c := ⟨_, rfl⟩
        rw [hcc] at hc eT eN eX eY
        clear hcc
        rw [na, nb] at eT eN eX eY
        clear na nb hE hst
        cases hdx : dg u <;> cases hdy : dg v <;> rw [hdx] at cA eT eN eX eY <;> rw [hdy] at cB eT eN eX eY <;> clear hdx hdy
        · have hr := eT rfl rfl
          have cO := order_any P Q
          rw [← hr] at cO
          clear eT eN eX eY hr
          by_cases h0 : c = 0
          · have hz : ((c : Int) != 0) = false := by simp [h0]
            have hn : Hid (LX = lexC cmpE (elems (lst X')) (elems (lst Y'))) := hid (by rw [hc.out, if_pos h0])
            clear h0 hc
            go_wp2
            go_quiet ((first | (go_at_call_of 56 u.toNat; with_reducible refine Calls.quiet_of_same ((cA _).mono fun _ _ h => ⟨h.1, h.2.symm⟩)) | (go_at_call_of 56 v.toNat; with_reducible refine Calls.quiet_of_same ((cB _).mono fun _ _ h => ⟨h.1, h.2.symm⟩))))
            go_wp2_with fail
            refine (cO _).mono ?_
            rintro e w3 ⟨rfl, rfl⟩
            go_wp2
            go_roundw
            case rel => exact ⟨X', Y', rfl, rfl, by omega, by omega, hn, hid (ex_drew HD2.out _)⟩
            case measure => exact hXl
          · have hz : ((c : Int) != 0) = true := by simpa using h0
            have hn : Hid (orI LX y = c) := hid (by rw [hc.out, if_neg h0]; exact if_neg h0)
            clear h0 hc
            go_wp2
            go_quiet ((first | (go_at_call_of 56 u.toNat; with_reducible refine Calls.quiet_of_same ((cA _).mono fun _ _ h => ⟨h.1, h.2.symm⟩)) | (go_at_call_of 56 v.toNat; with_reducible refine Calls.quiet_of_same ((cB _).mono fun _ _ h => ⟨h.1, h.2.symm⟩))))
            go_wp2_with fail
            refine (cO _).mono ?_
            rintro e w3 ⟨rfl, rfl⟩
            go_wp2
            go_ret
            rw [hn.out]
            exact ⟨rfl, ex_drew HD2.out _⟩
        · have hr := eY rfl rfl
          have hn : Hid (orI LX y = 1) := hid (by rw [hc.out, hr]; rfl)
          clear eT eN eX eY hr hc
          go_wp2
          go_quiet ((first | (go_at_call_of 56 u.toNat; with_reducible refine Calls.quiet_of_same ((cA _).mono fun _ _ h => ⟨h.1, h.2.symm⟩)) | (go_at_call_of 56 v.toNat; with_reducible refine Calls.quiet_of_same ((cB _).mono fun _ _ h => ⟨h.1, h.2.symm⟩))))
          go_wp2
          go_ret
          rw [hn.out]
          exact ⟨rfl, ex_drew HD2.out _⟩
        · have hr := eX rfl rfl
          have hn : Hid (orI LX y = -1) := hid (by rw [hc.out, hr]; rfl)
          clear eT eN eX eY hr hc
          go_wp2
          go_quiet ((first | (go_at_call_of 56 u.toNat; with_reducible refine Calls.quiet_of_same ((cA _).mono fun _ _ h => ⟨h.1, h.2.symm⟩)) | (go_at_call_of 56 v.toNat; with_reducible refine Calls.quiet_of_same ((cB _).mono fun _ _ h => ⟨h.1, h.2.symm⟩))))
          go_wp2
          go_ret
          rw [hn.out]
          exact ⟨rfl, ex_drew HD2.out _⟩
        · have hr := hid (eN rfl rfl)
          clear eT eN eX eY
          go_wp2
          go_quiet ((first | (go_at_call_of 56 u.toNat; with_reducible refine Calls.quiet_of_same ((cA _).mono fun _ _ h => ⟨h.1, h.2.symm⟩)) | (go_at_call_of 56 v.toNat; with_reducible refine Calls.quiet_of_same ((cB _).mono fun _ _ h => ⟨h.1, h.2.symm⟩))))
          go_wp2_with fail
          refine (bare_any P hPs _).mono ?_
          rintro e w3 ⟨⟨U, rfl, hU, hUs⟩, rfl⟩
          have HU := hid hU
          clear hU
          go_wp2_with fail
          refine (bare_any Q hQs _).mono ?_
          rintro e w3 ⟨⟨V, rfl, hV, hVs⟩, rfl⟩
          have HV := hid hV
          clear hV
          have cO := order_any U V
          have hr2 : Hid (c = orI (cmpI (U.size : Int) (V.size : Int)) (compareBytes (lst U) (lst V))) := hid (by
            rw [hr.out, ← HU.out, ← HV.out, show (lst U).length = U.size from (Lib.size_eq U).symm, show (lst V).length = V.size from (Lib.size_eq V).symm])
          obtain ⟨o, ho⟩ : ∃ o, compareBytes (lst U) (lst V) = o := ⟨_, rfl⟩
          rw [ho] at cO hr2
          clear ho hr HU HV
          rcases Nat.lt_trichotomy U.size V.size with hl | hl | hl
          · have l1 : (U.size : Int) < (V.size : Int) := by omega
            have l2 : ¬ (V.size : Int) < (U.size : Int) := by omega
            have hn : Hid (orI LX y = -1) := hid (by rw [hc.out, hr2.out]; unfold cmpI; rw [if_pos l1]; rfl)
            clear hr2 hc hl
            go_wp2_with fail
            refine (cO _).mono ?_
            rintro e w3 ⟨rfl, rfl⟩
            go_wp2
            go_ret
            rw [hn.out]
            exact ⟨rfl, ex_drew HD2.out _⟩
          · have l1 : ¬ (U.size : Int) < (V.size : Int) := by omega
            have l2 : ¬ (V.size : Int) < (U.size : Int) := by omega
            have hco : Hid (c = o) := hid (by rw [hr2.out]; unfold cmpI; rw [if_neg l1, if_neg l2]; rfl)
            clear hr2 hl
            by_cases h0 : o = 0
            · have hz : ((o : Int) != 0) = false := by simp [h0]
              have hn : Hid (LX = lexC cmpE (elems (lst X')) (elems (lst Y'))) := hid (by rw [hc.out, hco.out, if_pos h0])
              clear h0 hc hco
              go_wp2_with fail
              refine (cO _).mono ?_
              rintro e w3 ⟨rfl, rfl⟩
              go_wp2
              go_roundw
              case rel => exact ⟨X', Y', rfl, rfl, by omega, by omega, hn, hid (ex_drew HD2.out _)⟩
              case measure => exact hXl
            · have hz : ((o : Int) != 0) = true := by simpa using h0
              have hn : Hid (orI LX y = o) := hid (by rw [hc.out, hco.out, if_neg h0]; exact if_neg h0)
              clear h0 hc hco
              go_wp2_with fail
              refine (cO _).mono ?_
              rintro e w3 ⟨rfl, rfl⟩
              go_wp2
              go_ret
              rw [hn.out]
              exact ⟨rfl, ex_drew HD2.out _⟩
          · have l1 : ¬ (U.size : Int) < (V.size : Int) := by omega
            have l2 : (V.size : Int) < (U.size : Int) := by omega
            have hn : Hid (orI LX y = 1) := hid (by rw [hc.out, hr2.out]; unfold cmpI; rw [if_neg l1, if_pos l2]; rfl)
            clear hr2 hc hl
            go_wp2_with fail
            refine (cO _).mono ?_
            rintro e w3 ⟨rfl, rfl⟩
            go_wp2
            go_ret
            rw [hn.out]
            exact ⟨rfl, ex_drew HD2.out _⟩
      · have hl := lex_end X Y (.inr hy)
        obtain ⟨x1, x2, x3, x4⟩ := str_no hx
        obtain ⟨y1, y2, y3, y4⟩ := str_yes hy
        have hn : Hid (orI LX y = 1) := hid (by rw [hE.out, hl]; unfold cmpI; rw [if_neg (by omega), if_pos (by omega)]; rfl)
        clear hl hE
        go_wp2
        go_ret
        rw [hn.out]
        exact ⟨rfl, hD.out⟩
    · have hl := lex_end X Y (.inl hx)
      obtain ⟨x1, x2, x3, x4⟩ := str_yes hx
      by_cases hy : 0 < Y.size
      · obtain ⟨y1, y2, y3, y4⟩ := str_no hy
        have hn : Hid (orI LX y = -1) := hid (by rw [hE.out, hl]; unfold cmpI; rw [if_pos (by omega)]; rfl)
        clear hl hE
        go_wp2
        go_ret
        rw [hn.out]
        exact ⟨rfl, hD.out⟩
      · obtain ⟨y1, y2, y3, y4⟩ := str_yes hy
        have hn : Hid (orI LX y = y) := hid (by rw [hE.out, hl]; unfold cmpI; rw [if_neg (by omega), if_neg (by omega)]; rfl)
        clear hl hE
        go_wp2_with fail
        refine (cS _).mono ?_
        rintro e w3 ⟨rfl, rfl⟩
        go_wp2
        go_ret
        rw [hn.out]
        exact ⟨rfl, hD.out⟩
end Go.Proofs.YtdpfpkhbcdefmaaGreatDoor.S3

