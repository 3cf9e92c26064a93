/-
  Whether a string is in a list: timetablemade.has, timetableref02.Has. Conditions: the strings lie in memory.
  The courses of classes, each once: timetablemade.Courses. Conditions: the classes lie in memory; at most 100.
  The walk of Dice.Curricula: curricula as they are made. Conditions: dice in memory; the classes lie in memory in other blocks; at most 100.
  Whether a class is single, by the specification: Single. Conditions: the classes lie in memory, at most 40.
  More courses have no fewer pairs; what holds of a pair. No program.
-/
import Derived.Test.YtpaejkhaiifgdaaGreatDoorGN01
import Derived.Test.YtpaejkhaiifgdaaGreatDoorGN02
import Derived.Test.YtpaejkhaiifgdaaGreatDoorGN03
import Derived.Test.YtpaejkhaiifgdaaGreatDoorGN04
import Derived.Test.YtpaejkhaiifgdaaGreatDoorGN06
import Derived.Test.YtpaejkhaiifgdaaGreatDoorGN07
import Derived.Test.YtpaejkhaiifgdaaGreatDoorGN08
import Derived.Test.YtpaejkhaiifgdaaGreatDoorGN10
import Derived.Lib.Bytealg
import Derived.Test.YtpaejkhaiifgdaaGreatDoorProg
import Derived.WalkKit
import Derived.WalkSpells
import Derived.WalkLawsBesides
import Derived.Lib.Hide
import Derived.Deep.QuietTactic
import Derived.BigQuiet
import Derived.Laws.Rows
import Derived.OwnWalk
import Derived.Lib.BufferWrite
import Derived.Lib.UnsafeStr
import Derived.Laws.IdiomStrings
import Derived.Laws.BytesArg
import Derived.Laws.BytesString
import Derived.Laws.OwnMore
import Derived.Lib.IndexLaws
import Derived.Lib.ItoaNum
import Derived.Lib.Atoi
import Derived.Lib.SlTrimSet
import Derived.Shelf.Strings.Builder1
import Derived.Shelf.Strings.Builder2
import Derived.Shelf.Strings.OnBuilder
import Derived.Shelf.Strings.Trim
import Derived.Shelf.Small.Utf8
import Derived.Shelf.Small.Strs
import Derived.Shelf.Strings.BuilderF
import Derived.Shelf.Strings.BuilderK
import Derived.Shelf.Strings.Builder2Cap
import Derived.Shelf.Strconv.Atoi
import Derived.Shelf.Strconv.Itoa0
import Derived.Shelf.Strconv.Itoa1
import Derived.Shelf.LaysM
import Derived.Shelf.Strconv.Itoa2
import Derived.Shelf.Strconv.Itoa3
import Derived.Shelf.Strconv.AtoiErrFast
import Derived.Shelf.Strconv.ParseIntEmpty
import Derived.Shelf.Strconv.AtoiFail
import Derived.Shelf.Strconv.Clone
import Derived.Shelf.Strconv.SyntaxError
import Derived.Shelf.LaysC
import Derived.Shelf.Strconv.ToError
import Derived.Shelf.Strconv.AtoiErr
import Derived.Shelf.Strings.Search1
import Derived.Shelf.Strings.Search2
import Derived.Shelf.Strings.Search3
import Derived.Shelf.Strings.Cut
import Derived.Shelf.Strings.Shaped
import Derived.Shelf.Strings.Prefix
import Derived.Shelf.Strings.Runes
import Derived.Shelf.Strings.AsciiSet
import Derived.Shelf.Bits.Mul64
import Derived.Shelf.Strings.Repeat
import Derived.Shelf.Unicode.DecodeSlow
import Derived.Shelf.Strings.BuilderCap
import Derived.Shelf.Slices.Turned
import Derived.Shelf.Strings.SlTrimAscii
import Derived.Lib.AtoiErrMem
import Derived.Handy
import Derived.Laws.ResultCell
import Derived.RegionTactic
import Derived.Lib.Repeat
import Derived.Deep.RegionHeld3
import Derived.Laws.AppendOwn
import Derived.IntWalk
import Derived.Maps.OwnSet
import Derived.Maps.Range
import Derived.Deep.RegionLaw
import Derived.Laws.BitsAllLaws
import Derived.Laws.BitsLemmas
import Derived.Maps.AppendAt
import Derived.Deep.DeepCutAuto
import Derived.Deep.CutBlock
set_option linter.unusedVariables false
namespace Go.Proofs.YtpaejkhaiifgdaaGreatDoor.S11
open Go Go.Proofs Go.RowKit Go.Lib Go.Proofs.YtpaejkhaiifgdaaGreatDoor

set_option maxHeartbeats 2000000 in
set_option maxRecDepth 100000 in
theorem has_any (A : Option Addr) (l : List Str) (c : Nat) (x : ByteArray) (P : Nat → Prop) (w : World) (h : S3.StrsIn w P A l) (h63 : l.length ≤ 9223372036854775807) :
    Calls Tryz.prog 66 #[.slice A l.length c, .string x] w fun e w' => e = .returned (.bool (decide (lst x ∈ l))) ∧ w = w' := by
  obtain ⟨ANS, hA⟩ : ∃ ANS, decide (lst x ∈ l) = ANS := ⟨_, rfl⟩
  rw [hA]
  have HA : Hid (decide (lst x ∈ l.drop 0) = ANS) := hid hA
  have HH := hid h
  clear h hA
  go_enter Tryz.func66, Tryz.ntmps66
  go_wp2
  go_loop [5] (fun iv => ∃ i : Nat, iv = .int .i64 (i : Int) ∧ i ≤ l.length ∧ Hid (decide (lst x ∈ l.drop i) = ANS)) (fun iv => l.length - (RowKit.intOf iv).toNat)
  case atStart => exact ⟨0, rfl, Nat.zero_le _, HA⟩
  case round =>
    obtain ⟨i, rfl, hi, hE⟩ := hrel
    by_cases hlt : i < l.length
    · have hltz : (i : Int) < (l.length : Int) := by omega
      have dk : decide (l.length ≤ i) = false := decide_eq_false (by omega)
      obtain ⟨b1, o1, rfl, _, hc1⟩ := HH.out.at_ hlt
      have hst := hE.out
      rw [List.drop_eq_getElem_cons hlt] at hst
      obtain ⟨y, hy⟩ : ∃ y, l[i] = y := ⟨_, rfl⟩
      rw [hy] at hc1 hst
      obtain ⟨Y, hY⟩ : ∃ Y : ByteArray, (⟨y.toArray⟩ : ByteArray) = Y := ⟨_, rfl⟩
      have hYl : Y.toList = y := by rw [Lib.toList_data, ← hY]
      have hXl : x.toList = lst x := Lib.toList_data x
      have e1 : S3.strV y = .string Y := by rw [← hY]; rfl
      rw [e1] at hc1
      by_cases hxy : y = lst x
      · have hbe : (Y.toList == x.toList) = true := by rw [hXl, hYl, hxy]; simp
        have HST : Hid (ANS = true) := hid (by rw [← hst, hxy]; simp)
        clear hy hY hYl hXl e1 hst hE hxy
        go_wp2
        go_ret
        exact ⟨by rw [HST.out]; rfl, rfl⟩
      · have hbe : (Y.toList == x.toList) = false := by rw [hXl, hYl]; simpa using hxy
        have HST : Hid (decide (lst x ∈ l.drop (i + 1)) = ANS) := hid (by rw [← hst]; simp [Ne.symm hxy])
        clear hy hY hYl hXl e1 hst hE hxy
        go_wp2
        go_round
        case rel => exact ⟨i + 1, by go_num, by omega, HST⟩
        case measure => simp [RowKit.intOf]; omega
    · have hltz : ¬ (i : Int) < (l.length : Int) := by omega
      have HST : Hid (ANS = false) := hid (by rw [← hE.out, List.drop_of_length_le (by omega)]; simp)
      clear hE
      go_wp2
      go_ret
      exact ⟨by rw [HST.out]; rfl, rfl⟩
end Go.Proofs.YtpaejkhaiifgdaaGreatDoor.S11

set_option linter.unusedVariables false
namespace Go.Proofs.YtpaejkhaiifgdaaGreatDoor.S11
open Go Go.Proofs Go.RowKit Go.Lib Go.Proofs.YtpaejkhaiifgdaaGreatDoor Go.Proofs.YtpaejkhaiifgdaaGreatDoor.S10

/-- The courses of classes, each once. -/
def courses1 (acc : List Str) (x : ClassD) : List Str := if x.course ∈ acc then acc else acc ++ [x.course]
def coursesOf (l : List ClassD) : List Str := l.foldl courses1 []
theorem coursesOf_take (l : List ClassD) (i : Nat) (h : i < l.length) : coursesOf (l.take (i + 1)) = courses1 (coursesOf (l.take i)) l[i] := by
  unfold coursesOf
  rw [List.take_succ_eq_append_getElem h, List.foldl_append]
  rfl
theorem courses1_nodup {acc : List Str} {x : ClassD} (h : acc.Nodup) : (courses1 acc x).Nodup := by
  unfold courses1
  split
  · exact h
  · rename_i hn
    rw [List.nodup_append]
    refine ⟨h, by simp, fun a ha b hb => ?_⟩
    rw [List.mem_singleton] at hb
    subst hb
    exact fun e => hn (e ▸ ha)
theorem coursesOf_go : ∀ (l : List ClassD) (acc : List Str), acc.Nodup → (l.foldl courses1 acc).Nodup ∧ (l.foldl courses1 acc).length ≤ acc.length + l.length ∧ ∀ s ∈ l.foldl courses1 acc, s ∈ acc ∨ ∃ x ∈ l, x.course = s
  | [], acc, h => ⟨h, Nat.le_refl _, fun s hs => .inl hs⟩
  | x :: r, acc, h => by
    obtain ⟨h1, h2, h3⟩ := coursesOf_go r (courses1 acc x) (courses1_nodup h)
    have hl : (courses1 acc x).length ≤ acc.length + 1 := by unfold courses1; split <;> simp
    refine ⟨h1, by rw [List.length_cons]; show (List.foldl courses1 (courses1 acc x) r).length ≤ _; omega, fun s hs => ?_⟩
    rcases h3 s hs with h4 | ⟨y, hy, e⟩
    · unfold courses1 at h4
      split at h4
      · exact .inl h4
      · rcases List.mem_append.1 h4 with h5 | h5
        · exact .inl h5
        · rw [List.mem_singleton] at h5
          exact .inr ⟨x, by simp, h5.symm⟩
    · exact .inr ⟨y, by simp [hy], e⟩
theorem coursesOf_len (l : List ClassD) : (coursesOf l).length ≤ l.length := by
  have := (coursesOf_go l [] (by simp)).2.1
  simpa [coursesOf] using this
/-- What stands while courses are gathered. -/
structure KCO (w0 : World) (L : List Str) (v : Value) (w : World) : Prop where
  r : S3.StrRow w w0.heap.size v L
  b : Below w0.heap.size w0 w
theorem KCO.app {w0 w w' : World} {L L' : List Str} {v v' : Value} (h : KCO w0 L v w) (hg : w.grownBy w' v.ownBlock) (hr : S3.StrRow w' w0.heap.size v' L') : KCO w0 L' v' w' :=
  ⟨hr, h.b.grown hg h.b.size (fun k hk => (World.ownsRow.lt h.r k hk).1)⟩
set_option maxHeartbeats 8000000 in
set_option maxRecDepth 100000 in
theorem courses_any (A : Option Addr) (l : List ClassD) (c : Nat) (w : World) (h : ClassesIn w (fun k => k < w.heap.size) A l) (hl : l.length ≤ 100) :
    Calls Tryz.prog 49 #[.slice A l.length c] w (S3.RowOut (coursesOf l) w) := by
  obtain ⟨i9, hi9, hz9, hsi9, hby9⟩ := info_parts S3.infoStr
  have H0 : Hid (KCO w [] (.slice none 0 0) w) := hid ⟨World.ownsRow_nil _ _ _ _, Below.refl _ _⟩
  have HH := hid (fun (W : World) (hb : Below w.heap.size w W) => h.below hb)
  clear h
  unfold S3.RowOut
  go_enter Tryz.func49, Tryz.ntmps49
  go_wp2
  go_loopw [3, 4] (fun v iv wr => ∃ (i n : Nat) (Ar : Option Addr) (cr : Nat), v = .slice Ar n cr ∧ iv = .int .i64 (i : Int) ∧ i ≤ l.length ∧ n ≤ i ∧ Hid ((coursesOf (l.take i)).length = n) ∧ Hid (KCO w (coursesOf (l.take i)) (.slice Ar n cr) wr)) (fun _ iv _ => l.length - (RowKit.intOf iv).toNat)
  case atStart => exact ⟨0, 0, none, 0, rfl, rfl, Nat.zero_le _, Nat.le_refl _, hid rfl, H0⟩
  case round =>
    obtain ⟨i, n, Ar, cr, rfl, rfl, hi, hni, hn, hK⟩ := hrel
    by_cases hlt : i < l.length
    · have hltz : (i : Int) < (l.length : Int) := by omega
      have dk : decide (l.length ≤ i) = false := decide_eq_false (by omega)
      obtain ⟨b, o, q, rfl, hb, _, hc⟩ := (HH.out wr hK.out.b).at_ hlt
      have hst := coursesOf_take l i hlt
      unfold courses1 at hst
      obtain ⟨LC, hLC⟩ : ∃ LC, coursesOf (l.take i) = LC := ⟨_, rfl⟩
      rw [hLC] at hst hn hK
      obtain ⟨y, hy⟩ : ∃ y, (l[i]).course = y := ⟨_, rfl⟩
      have z1 := hc.c1
      rw [hy] at z1 hst
      obtain ⟨Ar', cr', hv, _, _, hin⟩ := hK.out.r.strsIn
      have hv' : Ar = Ar' := by injection hv
      have cH := has_any Ar LC cr (ba y) (fun b => w.heap.size ≤ b ∧ b < wr.heap.size) wr (by rw [hv']; exact hin) (by rw [hn.out]; omega)
      rw [hn.out, lst_ba] at cH
      obtain ⟨U, hU⟩ : ∃ U, decide (y ∈ LC) = U := ⟨_, rfl⟩
      rw [hU] at cH
      obtain ⟨Y, hY⟩ : ∃ Y, ba y = Y := ⟨_, rfl⟩
      have hYs : S3.strVals [y] = [.string Y] := by rw [← hY]; rfl
      rw [hY] at z1 cH
      have CH := hid cH
      have HST := hid hst
      have HU := hid hU
      have HYS := hid hYs
      clear hst hU hY hYs hv hv' hin cH hc hLC hy hb H0
      go_wp2_with fail
      refine CH.out.mono ?_
      rintro e w' ⟨rfl, rfl⟩
      cases U with
      | true =>
        have hst := HST.out
        rw [if_pos (by simpa using HU.out)] at hst
        have HN2 : Hid ((coursesOf (l.take (i + 1))).length = n) := hid (by rw [hst]; exact hn.out)
        have HK2 : Hid (KCO w (coursesOf (l.take (i + 1))) (.slice Ar n cr) wr) := hid (by rw [hst]; exact hK.out)
        clear hst
        go_wp2
        go_roundw
        case rel => exact ⟨i + 1, n, Ar, cr, rfl, by go_num, by omega, by omega, HN2, HK2⟩
        case measure => simp [RowKit.intOf]; omega
      | false =>
        have hst := HST.out
        rw [if_neg (by simpa using HU.out)] at hst
        have HST2 := hid hst
        have hrow := hK.out.r
        unfold S3.StrRow at hrow
        rw [hn.out] at hrow
        have HROW := hid hrow
        have HC3 : Hid (n + 1 ≤ maxLen) := by unfold maxLen; exact hid (by omega)
        have HC4 : Hid ((n + 1) * 16 ≤ 140737488355328) := hid (by omega)
        have HC5 : Hid (∀ o : Obj, w.heap.size ≤ (wr.alloc o).heap.size) := hid (fun o => by have := hK.out.b.size; simp; omega)
        clear hst hrow
        go_wp2_with (at_builtin; refine wpList_append_own _ rfl _ _ 39 rfl w.heap.size 9 i9 (.string ⟨#[]⟩) 1 16 Tryz.underlying39 hi9 hz9 hsi9 hby9 rfl (by decide) _ n (S3.strVals LC) rfl (World.ownsRow.alloc HROW.out _) ⟨wr.heap.size, 0, none⟩ 1 1 [.string Y] rfl rfl (one_new _ _ _) (S3.one_str _) HC3.out HC4.out (HC5.out _) ?_)
        intro v' w4 hown' hgrow _
        have hg' := grownBy_of_alloc hgrow
        obtain ⟨A6, c6, rfl⟩ := S3.row_slice hown'
        have hrow6 : S3.StrRow w4 w.heap.size (.slice A6 (n + 1) c6) (coursesOf (l.take (i + 1))) := by
          rw [HST2.out]
          unfold S3.StrRow
          rw [List.length_append, hn.out, S3.strVals_app, HYS.out]
          exact hown'
        have HK4 := hid (hK.out.app hg' hrow6)
        have HN2 : Hid ((coursesOf (l.take (i + 1))).length = n + 1) := hid (by rw [HST2.out, List.length_append, hn.out]; rfl)
        clear hown' hgrow hg' hrow6 HC3 HC4 HC5
        go_wp2
        go_roundw
        case rel => exact ⟨i + 1, n + 1, A6, c6, rfl, by go_num, by omega, by omega, HN2, HK4⟩
        case measure => simp [RowKit.intOf]; omega
    · have hltz : ¬ (i : Int) < (l.length : Int) := by omega
      have HR : Hid (S3.RowOut (coursesOf l) w (.returned (.slice Ar n cr)) wr) := hid ⟨⟨_, rfl, by have := hK.out.r; rwa [List.take_of_length_le (by omega)] at this⟩, hK.out.b⟩
      clear hK hn H0
      go_wp2
      go_ret
      exact HR.out
end Go.Proofs.YtpaejkhaiifgdaaGreatDoor.S11

set_option linter.unusedVariables false
namespace Go.Proofs.YtpaejkhaiifgdaaGreatDoor.S11
open Go Go.Proofs Go.RowKit Go.Lib Go.Proofs.YtpaejkhaiifgdaaGreatDoor Go.Proofs.YtpaejkhaiifgdaaGreatDoor.S10

def codeCS (j : Nat) : Str := [67, 83, UInt8.ofNat (49 + j)]
/-- Curricula as they are made, of courses. -/
structure CurrsOk (names : List Str) (ls : List CurrD) : Prop where
  len : ls.length ≤ 3
  at_ : ∀ (j : Nat) (x : CurrD), ls[j]? = some x → x.1 = codeCS j ∧ x.2 ≠ [] ∧ x.2.Sublist names
theorem CurrsOk.app {names : List Str} {ls : List CurrD} {x : CurrD} (h : CurrsOk names ls) (hl : ls.length < 3) (hx : x.1 = codeCS ls.length ∧ x.2 ≠ [] ∧ x.2.Sublist names) : CurrsOk names (ls ++ [x]) := by
  refine ⟨by simp; omega, fun j y hj => ?_⟩
  rcases Nat.lt_trichotomy j ls.length with k | k | k
  · rw [List.getElem?_append_left k] at hj
    exact h.at_ j y hj
  · subst k
    rw [List.getElem?_append_right (Nat.le_refl _)] at hj
    simp at hj
    subst hj
    exact hx
  · rw [List.getElem?_append_right (by omega)] at hj
    rw [List.getElem?_eq_none (by simp; omega)] at hj
    simp at hj
theorem StrRow.at_own {w : World} {B : Nat} {A : Option Addr} {n c : Nat} {l : List Str} (h : S3.StrRow w B (.slice A n c) l) : S3.StrsIn w (fun b => (Value.slice A n c).ownBlock = some b) A l := by
  have h' := h
  rcases h.2 with ⟨hv, h0⟩ | ⟨g, cap, cur, hv, hB, hg, h1, h2, _⟩
  · exact .inl (List.eq_nil_of_length_eq_zero h0)
  · have hA : A = some ⟨g, 0, none⟩ := by injection hv
    refine .inr ⟨g, 0, hA, by rw [hA]; rfl, fun j s hj => ?_⟩
    have := World.ownsRow.cells h' (g := g) (by rw [hv]; rfl) j (S3.strV s) (by unfold S3.strVals; rw [List.getElem?_map, hj]; rfl)
    rwa [Addr.add_lit] at this
/-- What stands while curricula are made. -/
structure KCU (w0 : World) (g c : Nat) (A : Option Addr) (L : List Int) (names : List Str) (nv : Value) (ls : List CurrD) (v : Value) (w : World) : Prop where
  e : ∃ k, DE w0 g c A L k w
  nm : S3.StrRow w w0.heap.size nv names
  row : ∃ Lr : List (CurrD × CurrA), Lr.map (·.1) = ls ∧ w.ownsRow w0.heap.size 41 2 v Lr.length (currVals Lr) ∧ ∀ p ∈ Lr, CurrIn w (fun k => w0.heap.size ≤ k ∧ k < w.heap.size ∧ some k ≠ v.ownBlock) p.1 p.2
  g0 : g < w0.heap.size
  ok : CurrsOk names ls
section
variable {w0 w w' : World} {g c : Nat} {A : Option Addr} {L : List Int} {names : List Str} {nv : Value} {ls : List CurrD} {v v' : Value}
theorem KCU.played {k' : Nat} (h : KCU w0 g c A L names nv ls v w) (he : DE w g c A L k' w') : KCU w0 g c A L names nv ls v w' := by
  obtain ⟨k, h0⟩ := h.e
  have hg := h.g0
  have hz := he.p.size
  obtain ⟨Lr, hL, ho, hr⟩ := h.row
  exact ⟨⟨k', h0.trans he⟩, he.p.row h.nm (fun k hk => by have h1 := World.ownsRow.lt h.nm k hk; omega), ⟨Lr, hL, he.p.row ho (fun k hk => by have h1 := World.ownsRow.lt ho k hk; omega), fun q hq => ((hr q hq).kept (fun k hk => he.p.block k hk.2.1 (by omega))).mono (fun k hk => ⟨hk.1, by omega, hk.2.2⟩)⟩, hg, h.ok⟩
theorem KCU.dice (h : KCU w0 g c A L names nv ls v w) : ∃ k, DiceAt w g A L c k := by
  obtain ⟨k, h0⟩ := h.e
  exact ⟨k, h0.d⟩
theorem KCU.size (h : KCU w0 g c A L names nv ls v w) : w0.heap.size ≤ w.heap.size := by
  obtain ⟨k, h0⟩ := h.e
  exact h0.p.size
theorem KCU.app {r : CurrD} {q : CurrA} (h : KCU w0 g c A L names nv ls v w)
    (hr' : CurrIn w (fun k => w0.heap.size ≤ k ∧ k < w.heap.size ∧ some k ≠ v.ownBlock) r q)
    {Lr : List (CurrD × CurrA)} (hL : Lr.map (·.1) = ls) (ho : w.ownsRow w0.heap.size 41 2 v Lr.length (currVals Lr)) (hr : ∀ p ∈ Lr, CurrIn w (fun k => w0.heap.size ≤ k ∧ k < w.heap.size ∧ some k ≠ v.ownBlock) p.1 p.2)
    (hown : w'.ownsRow w0.heap.size 41 2 v' (Lr.length + 1) (currVals Lr ++ currVs r q))
    (hg : w.grownBy w' v.ownBlock) (hat : v'.ownBlock = v.ownBlock ∨ ∃ j, v'.ownBlock = some j ∧ w.heap.size ≤ j) (hk : CurrsOk names (ls ++ [r])) : KCU w0 g c A L names nv (ls ++ [r]) v' w' := by
  obtain ⟨j, h0⟩ := h.e
  have hg0 := h.g0
  have hs := hg.size
  have hb : Below w0.heap.size w w' := (Below.refl _ w).grown hg h0.p.size (fun k hk => (World.ownsRow.lt ho k hk).1)
  have hne : ∀ k, k < w.heap.size → some k ≠ v.ownBlock → some k ≠ v'.ownBlock := by
    intro k hk hne
    rcases hat with e | ⟨j, e, hj⟩
    · rw [e]; exact hne
    · rw [e]; intro e0; injection e0 with e0; omega
  refine ⟨⟨j, h0.below hb hg0⟩, h.nm.kept hg (kinds_ne h.nm ho (by decide)), ⟨Lr ++ [(r, q)], by rw [List.map_append, hL]; rfl, ?_, fun p hp' => ?_⟩, hg0, hk⟩
  · rw [currVals_app, List.length_append, List.length_singleton]
    simpa [currVals] using hown
  · rcases List.mem_append.1 hp' with hp' | hp'
    · exact ((hr p hp').kept (fun k hk => hg.block k hk.2.1 hk.2.2)).mono (fun k hk => ⟨hk.1, by omega, hne k hk.2.1 hk.2.2⟩)
    · rw [List.mem_singleton] at hp'
      subst hp'
      exact (hr'.kept (fun k hk => hg.block k hk.2.1 hk.2.2)).mono (fun k hk => ⟨hk.1, by omega, hne k hk.2.1 hk.2.2⟩)
end
theorem curr_new (w : World) (r : CurrD) (q : CurrA) : ∀ (j : Nat) (u : Value), (currVs r q)[j]? = some u → (w.alloc (.cells #[.string (ba r.1), .slice q.1 r.2.length q.2] 41)).cell? ((⟨w.heap.size, 0, none⟩ : Addr).add j) = some u := by
  intro j u h
  obtain ⟨k0, k1⟩ := (Box2.new w (.string (ba r.1)) (.slice q.1 r.2.length q.2)).cells
  rw [Addr.add_lit]
  match j, h with
  | 0, h => exact k0.trans h
  | 1, h => exact k1.trans h
  | j + 2, h => simp [currVs] at h
theorem curr_cells (r : CurrD) (q : CurrA) : ∀ u ∈ currVs r q, u.oneCell' = true := by
  intro u hu
  simp [currVs] at hu
  rcases hu with rfl | rfl <;> rfl
/-- What Curricula hands back. -/
def CurriculaP (names : List Str) (g c : Nat) (A : Option Addr) (L : List Int) (w0 : World) (e : Ending) (w' : World) : Prop :=
  ∃ (ls : List CurrD) (v : Value) (k' : Nat), e = .returned v ∧ CurrsOk names ls ∧ CurrRow w' w0.heap.size (fun k => w0.heap.size ≤ k ∧ k < w'.heap.size) v ls ∧ DE w0 g c A L k' w'
set_option maxHeartbeats 32000000 in
set_option maxRecDepth 100000 in
theorem curricula_any (g c k : Nat) (A : Option Addr) (L : List Int) (Ac : Option Addr) (cls : List ClassD) (cc : Nat) (hl : cls.length ≤ 100) (w : World) (h : DiceAt w g A L c k) (hc : ClassesIn w (fun k => k < w.heap.size) Ac cls) :
    Calls Tryz.prog 24 #[.pointer (some ⟨g, 0, none⟩), .slice Ac cls.length cc] w (CurriculaP (coursesOf cls) g c A L w) := by
  obtain ⟨iC, hiC, hzC, hsiC, hbyC⟩ := info_parts infoCurr
  have hnl := coursesOf_len cls
  have cCO := courses_any Ac cls cc w hc hl
  obtain ⟨names, hnames⟩ : ∃ N, coursesOf cls = N := ⟨_, rfl⟩
  rw [hnames] at cCO hnl ⊢
  unfold S3.RowOut at cCO
  have CCO := hid cCO
  have HSm := hid (fun (W : World) (Aa : Option Addr) (ca k : Nat) (hd : DiceAt W g A L c k) (hs : S3.StrsIn W (fun b => b < W.heap.size ∧ b ≠ g) Aa names) => some_any g c k A L 2 (by omega) (by omega) Aa names ca W hd hs (by omega))
  have HN := hid (fun (W : World) k q hq (h : DiceAt W g A L c k) => next_any g c k A L q hq W h)
  have HE := hid (DE.first h)
  have HG := hid h.lt
  obtain ⟨NC, hNC⟩ : ∃ F, cls.length = F := ⟨_, rfl⟩
  rw [hNC] at CCO hl hnl ⊢
  clear h hc cCO hnames hNC
  go_enter Tryz.func24, Tryz.ntmps24
  go_wp2_with fail
  refine CCO.out.mono ?_
  rintro e w1 ⟨⟨vn, rfl, hrn⟩, hb1⟩
  obtain ⟨An, cn, rfl, hn1, hn2, _⟩ := hrn.strsIn
  have hk0 : KCU w g c A L names (.slice An names.length cn) [] (.slice none 0 0) w1 := ⟨⟨_, HE.out.below hb1 HG.out⟩, hrn, ⟨[], rfl, World.ownsRow_nil _ _ _ _, fun p hp => by simp at hp⟩, HG.out, ⟨by simp, fun j x hj => by simp at hj⟩⟩
  have HK0 := hid hk0
  obtain ⟨k0, hd0⟩ := hk0.dice
  have cN := hid (HN.out _ k0 4 (by omega) hd0)
  obtain ⟨SN, hSN⟩ : ∃ SN, names.length = SN := ⟨_, rfl⟩
  have HSN := hid hSN
  rw [hSN] at HK0 hnl hn1 ⊢
  clear hrn hb1 hk0 hd0 CCO HE HN hSN
  go_wp2_with fail
  refine cN.out.mono ?_
  rintro e w2 ⟨⟨r, rfl, hr⟩, ⟨k1, hd⟩, hR⟩
  obtain ⟨hr0, hr1⟩ := hr (by omega)
  obtain ⟨q0, rfl⟩ : ∃ q : Nat, r = (q : Int) := ⟨r.toNat, by omega⟩
  have HK2 : Hid (KCU w g c A L names (.slice An SN cn) [] (.slice none 0 0) w2) := hid (by
    obtain ⟨k9, h9⟩ := HK0.out.dice
    exact HK0.out.played ((DE.first h9).next hd hR))
  clear hr hd hR HK0 cN
  go_wp2
  go_loopw [6, 7] (fun v nv wr => ∃ (q j : Nat) (ls : List CurrD) (Al : Option Addr) (cl : Nat), v = .slice Al j cl ∧ nv = .int .i64 (q : Int) ∧ q + j ≤ 3 ∧ Hid (ls.length = j) ∧ Hid (KCU w g c A L names (.slice An SN cn) ls (.slice Al j cl) wr)) (fun _ nv _ => (RowKit.intOf nv).toNat)
  case atStart => exact ⟨q0, 0, [], none, 0, rfl, rfl, by omega, hid rfl, HK2⟩
  case round =>
    obtain ⟨q, j, ls, Al, cl, rfl, rfl, hq, hlj, hK⟩ := hrel
    clear HK2
    have HEND : Hid (CurriculaP names g c A L w (.returned (.slice Al j cl)) wr) := hid (by
      obtain ⟨k2, he2⟩ := hK.out.e
      obtain ⟨Lr, hL, ho, hr⟩ := hK.out.row
      have hl0 : Lr.length = ls.length := by rw [← hL, List.length_map]
      exact ⟨ls, _, k2, rfl, hK.out.ok, ⟨Lr, hL, by rw [← hl0]; exact ho, fun p hp => (hr p hp).mono (fun k hk => ⟨hk.1, hk.2.1⟩)⟩, he2⟩)
    by_cases hz : 0 < q
    · have hqz : (0 : Int) < (q : Int) := by omega
      by_cases hs0 : 0 < SN
      · have hsz : (0 : Int) < (SN : Int) := by omega
        obtain ⟨k2, hd2⟩ := hK.out.dice
        have hin := StrRow.at_own (by have := hK.out.nm; exact this)
        have cSm := HSm.out wr An cn k2 hd2 (hin.mono (fun b hb => by have h1 := World.ownsRow.lt hK.out.nm b hb; have := HG.out; exact ⟨h1.2, by omega⟩))
        rw [HSN.out] at cSm
        have CSM := hid cSm
        clear cSm hin hd2 HEND
        go_wp2_with fail
        refine CSM.out.mono ?_
        rintro e w3 ⟨ss, vs, k3, rfl, hsub, hrs, he3⟩
        obtain ⟨As, cs, rfl, hs1, hs2, hs3⟩ := S3.StrRow.strsIn hrs
        have HK3 := hid (hK.out.played he3)
        have hvl : ∀ k, (Value.slice Al j cl).ownBlock = some k → k < wr.heap.size := by
          obtain ⟨Lr, hL, ho, hr⟩ := hK.out.row
          exact fun k hk => (World.ownsRow.lt ho k hk).2
        have hC : Hid (S3.StrsIn w3 (fun k => w.heap.size ≤ k ∧ k < w3.heap.size ∧ some k ≠ (Value.slice Al j cl).ownBlock) As ss) := hid (hs3.mono (fun k hk => ⟨by have := hK.out.size; have := hk.1; omega, hk.2, fun e => by have := hvl k e.symm; have := hk.1; omega⟩))
        have hNM : Hid (S3.StrsIn w3 (fun k => w.heap.size ≤ k ∧ k < w3.heap.size ∧ some k ≠ (Value.slice Al j cl).ownBlock) An (names.take 1)) := hid (by
          obtain ⟨Lr, hL, ho, hr⟩ := HK3.out.row
          have h1 := StrRow.at_own HK3.out.nm
          have h2 := h1.mono (P' := fun k => w.heap.size ≤ k ∧ k < w3.heap.size ∧ some k ≠ (Value.slice Al j cl).ownBlock) (fun b hb => by
            have h1 := World.ownsRow.lt HK3.out.nm b hb
            refine ⟨h1.1, h1.2, fun e => ?_⟩
            rcases kinds_ne HK3.out.nm ho (by decide) with h | h
            · rw [h] at hb; cases hb
            · exact h (hb.trans e))
          rcases h2 with h2 | ⟨b, off, hA, hP, hc⟩
          · exact .inl (by rw [h2]; rfl)
          · refine .inr ⟨b, off, hA, hP, fun j s hj => hc j s ?_⟩
            rw [List.getElem?_take] at hj
            split at hj
            · exact hj
            · simp at hj)
        have HSUB := hid hsub
        have HSC := hid (And.intro hs1 hs2)
        obtain ⟨SSN, hSSN⟩ : ∃ F, ss.length = F := ⟨_, rfl⟩
        have HSSN := hid hSSN
        rw [hSSN] at hs1 ⊢
        have hcn1 : 1 ≤ cn := by omega
        clear hsub hrs he3 hs3 hs1 hs2 CSM hvl hK hSSN
        go_upto_if 27 with fail
        go_cut [8] (fun v8 wx => ∃ (cs' : List Str) (A' : Option Addr) (n' c' : Nat), v8 = .slice A' n' c' ∧ wx = w3 ∧ Hid (cs'.length = n') ∧ Hid (cs' ≠ [] ∧ cs'.Sublist names) ∧ Hid (n' ≤ c' ∧ c' ≤ 9223372036854775807) ∧ Hid (S3.StrsIn w3 (fun k => w.heap.size ≤ k ∧ k < w3.heap.size ∧ some k ≠ (Value.slice Al j cl).ownBlock) A' cs'))
        case first =>
          by_cases he : SSN = 0
          · subst he
            go_wp2_with fail
            go_meet
            exact ⟨names.take 1, An, 1, cn, rfl, rfl, hid (by rw [List.length_take, HSN.out]; omega), hid ⟨fun e => by have := congrArg List.length e; rw [List.length_take, HSN.out] at this; simp at this; omega, List.take_sublist _ _⟩, hid ⟨hcn1, hn2⟩, hNM⟩
          · have hei : ¬ (SSN : Int) = 0 := by omega
            have heb : ((SSN : Int) == 0) = false := beq_eq_false_iff_ne.2 hei
            go_wp2_with fail
            go_meet
            exact ⟨ss, As, SSN, cs, rfl, rfl, HSSN, hid ⟨fun e => by have := HSSN.out; rw [e] at this; simp at this; omega, HSUB.out⟩, hid (by have := HSC.out; rw [HSSN.out] at this; exact this), hC⟩
        case rest =>
          obtain ⟨cs', A', n', c', rfl, rfl, hN', hOK, hCP, hIN⟩ := hcut
          clear hC hNM HSUB HSC HSSN
          have hcv : (Go.convert 94 9 (.slice (some ⟨wc.heap.size, 0, none⟩) 1 1)).run Tryz.prog (wc.alloc (.cells #[.int .u8 (49 + (j : Int))] 5)) = .ok (.string ⟨#[UInt8.ofNat (49 + j)]⟩) (wc.alloc (.cells #[.int .u8 (49 + (j : Int))] 5)) := by
            have ho := World.ownsRow_lit (base := wc.heap.size) (e := 5) (size := 1) wc #[.int .u8 (49 + (j : Int))] 1 (Nat.le_refl _) (by unfold maxLen; omega) rfl
            have e : #[Value.int .u8 (49 + (j : Int))].toList = byteCells [UInt8.ofNat (49 + j)] := by
              rcases (show j = 0 ∨ j = 1 ∨ j = 2 by omega) with rfl | rfl | rfl <;> rfl
            rw [e] at ho
            exact row_string (P := Tryz.prog) (l := [UInt8.ofNat (49 + j)]) ho 94 5 9 Tryz.underlying94 Tryz.underlying5 Tryz.underlying9
          have hadd : ∀ w, (Op.stringOp .add (⟨#[67, 83]⟩ : ByteArray) ⟨#[UInt8.ofNat (49 + j)]⟩).run Tryz.prog w = .ok (.string (ba (codeCS j))) w := fun w => run_string_add_sum (w := w) _ _ (by show (2 : Nat) + 1 ≤ 9223372036854775807; omega)
          have HCD : Hid ((⟨#[67, 83]⟩ : ByteArray) ++ ⟨#[49 + UInt8.ofNat j]⟩ = ba (codeCS j)) := hid (by rcases (show j = 0 ∨ j = 1 ∨ j = 2 by omega) with rfl | rfl | rfl <;> rfl)
          obtain ⟨kd, hdd⟩ := HK3.out.dice
          have hK4 := HK3.out.played ((DE.first hdd).alloc (.cells #[.int .u8 (49 + (j : Int))] 5))
          have hin4 := (hIN.out.kept (w' := wc.alloc (.cells #[.int .u8 (49 + (j : Int))] 5)) (fun k hk => heap_alloc_old wc _ hk.2.1)).mono (P' := fun k => w.heap.size ≤ k ∧ k < (wc.alloc (.cells #[.int .u8 (49 + (j : Int))] 5)).heap.size ∧ some k ≠ (Value.slice Al j cl).ownBlock) (fun k hk => ⟨hk.1, by simp; omega, hk.2.2⟩)
          have hci : CurrIn (wc.alloc (.cells #[.int .u8 (49 + (j : Int))] 5)) (fun k => w.heap.size ≤ k ∧ k < (wc.alloc (.cells #[.int .u8 (49 + (j : Int))] 5)).heap.size ∧ some k ≠ (Value.slice Al j cl).ownBlock) (codeCS j, cs') (A', c') := ⟨hin4, by show cs'.length ≤ c'; rw [hN'.out]; exact hCP.out.1, hCP.out.2⟩
          have HOKN : Hid (CurrsOk names (ls ++ [(codeCS j, cs')])) := hid (HK3.out.ok.app (by rw [hlj.out]; omega) ⟨by rw [hlj.out], hOK.out⟩)
          obtain ⟨Lr, hL, ho, hr⟩ := hK4.row
          have hl0 : Lr.length = j := by rw [← hlj.out, ← hL, List.length_map]
          have ho' := ho
          rw [hl0] at ho'
          have HO' := hid ho'
          have HK4 := hid hK4
          have HLL := hid hL
          have HOO := hid ho
          have HRR := hid hr
          have HL0 := hid hl0
          have HCI := hid hci
          have HM1 : Hid (j + 1 ≤ maxLen) := by unfold maxLen; exact hid (by omega)
          have HM2 : Hid ((j + 1) * 40 ≤ 140737488355328) := hid (by omega)
          have HBS : Hid (∀ o : Obj, w.heap.size ≤ ((wc.alloc (.cells #[.int .u8 (49 + (j : Int))] 5)).alloc o).heap.size) := hid (fun o => by have := hK4.size; simp at this ⊢; omega)
          have hCC := fun W => curr_new W (codeCS j, cs') (A', c')
          have hCO := curr_cells (codeCS j, cs') (A', c')
          unfold currVs at hCC hCO
          dsimp only at hCC hCO
          rw [hN'.out] at hCC hCO
          have hCC := hCC (wc.alloc (.cells #[.int .u8 (49 + (j : Int))] 5))
          rw [show (wc.alloc (.cells #[.int .u8 (49 + (j : Int))] 5)).heap.size = wc.heap.size + 1 by simp] at hCC
          have HCC := hid hCC
          have HCO := hid hCO
          clear hdd hK4 hin4 hci hL ho hr hl0 ho' hCC hCO
          go_wp2_with (at_builtin; try rw [HCD.out]; refine wpList_append_own_at _ rfl _ _ 22 rfl w.heap.size 41 iC (.agg #[.string ⟨#[]⟩, .slice none 0 0]) 2 40 Tryz.underlying22 hiC hzC hsiC hbyC rfl (by decide) (.slice Al j cl) j (currVals Lr) rfl (World.ownsRow.alloc HO'.out _) ⟨wc.heap.size + 1, 0, none⟩ 1 1 [.string (ba (codeCS j)), .slice A' n' c'] rfl rfl HCC.out HCO.out HM1.out HM2.out (HBS.out _) ?_)
          intro v' w8 hown hgrow _ hat
          obtain ⟨gA, cA, rfl⟩ := S3.row_slice hown
          have HA := hid (HK4.out.app HCI.out HLL.out HOO.out HRR.out (by rw [HL0.out]; unfold currVs; dsimp only; rw [hN'.out]; exact hown) (grownBy_of_alloc hgrow) (hat.imp id (fun h => ⟨_, h, by simp⟩)) HOKN.out)
          clear hown hgrow hat HK4 HLL HRR HOO HO' HCI HOKN HM1 HM2 HBS HCC HCO hCC hcv hadd HCD HK3 hIN
          go_wp2
          go_roundw
          case rel => exact ⟨q - 1, j + 1, ls ++ [(codeCS j, cs')], _, _, rfl, by congr 1; omega, by omega, hid (by rw [List.length_append, hlj.out]; rfl), HA⟩
          case measure => simp [RowKit.intOf]; omega
      · have hs00 : SN = 0 := by omega
        subst hs00
        clear hK
        go_wp2
        go_ret
        exact HEND.out
    · have hqz : ¬ (0 : Int) < (q : Int) := by omega
      clear hK
      go_wp2
      go_ret
      exact HEND.out
end Go.Proofs.YtpaejkhaiifgdaaGreatDoor.S11

set_option linter.unusedVariables false
namespace Go.Proofs.YtpaejkhaiifgdaaGreatDoor.S11
open Go Go.Proofs Go.RowKit Go.Lib Go.Proofs.YtpaejkhaiifgdaaGreatDoor Go.Proofs.YtpaejkhaiifgdaaGreatDoor.S10

/-- Two classes of a list. -/
structure KSS (w0 : World) (fb p p' : Nat) (x y : ClassD) (q q' : ClassA) (w : World) : Prop where
  x : ClassAt w fb p x q
  y : ClassAt w fb p' y q'
  b : Below w0.heap.size w0 w
  z : fb < w.heap.size
theorem KSS.next {w0 w w' : World} {fb p p' : Nat} {x y : ClassD} {q q' : ClassA} (h : KSS w0 fb p p' x y q q' w) (k : Below w.heap.size w w') : KSS w0 fb p p' x y q q' w' :=
  ⟨h.x.kept (k.block _ h.z), h.y.kept (k.block _ h.z), h.b.trans (k.mono h.b.size), Nat.lt_of_lt_of_le h.z k.size⟩
set_option maxHeartbeats 16000000 in
set_option maxRecDepth 100000 in
theorem rsingle_any (A : Option Addr) (l : List ClassD) (c i : Nat) (hi : i < l.length) (hl : l.length ≤ 40) (w : World) (h : ClassesIn w (fun k => k < w.heap.size) A l) :
    Calls Tryz.prog 31 #[.slice A l.length c, .int .i64 (i : Int)] w (Says (.bool (singleB l i)) w) := by
  have hsi := singleB_iff hi
  obtain ⟨fb, fo, q, rfl, hfb, _, hx⟩ := h.at_ hi
  have HH := hid (fun (W : World) (hb : Below w.heap.size w W) => h.below hb)
  have HX := hid (fun (W : World) (hb : Below w.heap.size w W) => hx.kept (hb.block fb hfb))
  obtain ⟨x, hxe⟩ : ∃ x, l[i] = x := ⟨_, rfl⟩
  rw [hxe] at hsi HX
  obtain ⟨R, hR⟩ : ∃ R, singleB l i = R := ⟨_, rfl⟩
  rw [hR] at hsi ⊢
  unfold Says
  have HSI := hid hsi
  have HFB := hid hfb
  obtain ⟨N, hN⟩ : ∃ N, l.length = N := ⟨_, rfl⟩
  have HN := hid hN
  have hiN : (i : Int) < (N : Int) := by omega
  have dki : decide (N ≤ i) = false := decide_eq_false (by omega)
  rw [hN] at hl ⊢
  clear h hx hxe hR hsi hfb hN
  go_enter Tryz.func31, Tryz.ntmps31
  go_wp2
  go_loopw [5] (fun iv wr => ∃ k : Nat, iv = .int .i64 (k : Int) ∧ k ≤ N ∧ Hid (∀ j, ∀ hj : j < l.length, j < k → j ≠ i → parB x l[j] = false) ∧ Hid (Below w.heap.size w wr)) (fun iv _ => N - (RowKit.intOf iv).toNat)
  case atStart => exact ⟨0, rfl, Nat.zero_le _, hid (fun j _ hj _ => absurd hj (Nat.not_lt_zero _)), hid (Below.refl _ _)⟩
  case round =>
    obtain ⟨k, rfl, hk, hP, hBw⟩ := hrel
    by_cases hlt : k < N
    · have hltz : (k : Int) < (N : Int) := by omega
      have dk : decide (N ≤ k) = false := decide_eq_false (by omega)
      have hkl : k < l.length := by rw [HN.out]; exact hlt
      by_cases hki : k = i
      · subst hki
        have hne : ((k : Int) != (k : Int)) = false := by simp
        have HP2 : Hid (∀ j, ∀ hj : j < l.length, j < k + 1 → j ≠ k → parB x l[j] = false) := hid (fun j hj h1 h2 => hP.out j hj (by omega) h2)
        clear hP
        go_wp2
        go_quiet (fail)
        go_wp2
        go_roundw
        case rel => exact ⟨k + 1, by go_num, by omega, HP2, hid (S3.below_drewN hBw.out _)⟩
        case measure => simp [RowKit.intOf]; omega
      · have hkz : ¬ (k : Int) = (i : Int) := by omega
        have hne : ((k : Int) != (i : Int)) = true := bne_iff_ne.2 hkz
        obtain ⟨b', o', q', hA, _, _, hy⟩ := (HH.out wr hBw.out).at_ hkl
        injection hA with hA; injection hA with hA1 hA2
        subst hA1 hA2
        obtain ⟨y, hye⟩ : ∃ y, l[k] = y := ⟨_, rfl⟩
        rw [hye] at hy
        have hk' : KSS w fb (fo + i * 9) (fo + k * 9) x y q q' wr := ⟨HX.out wr hBw.out, hy, hBw.out, Nat.lt_of_lt_of_le HFB.out hBw.out.size⟩
        have cP := fun W => rpar_any x y q q' W
        unfold Says clsV at cP
        obtain ⟨T, hT⟩ : ∃ T, parB x y = T := ⟨_, rfl⟩
        rw [hT] at cP
        have CP : Hid (∀ W, KSS w fb (fo + i * 9) (fo + k * 9) x y q q' W → Calls Tryz.prog 30 #[.agg #[.string (ba x.code), .string (ba x.course), .string (ba x.part), .int .i64 x.len, .slice q.aP x.pats.length q.cP, .int .i64 x.seats, .slice q.aF x.feats.length q.cF, .slice q.aS x.staff.length q.cS, .slice q.aT x.starts.length q.cT], .agg #[.string (ba y.code), .string (ba y.course), .string (ba y.part), .int .i64 y.len, .slice q'.aP y.pats.length q'.cP, .int .i64 y.seats, .slice q'.aF y.feats.length q'.cF, .slice q'.aS y.staff.length q'.cS, .slice q'.aT y.starts.length q'.cT]] W fun e w' => e = .returned (.bool T) ∧ KSS w fb (fo + i * 9) (fo + k * 9) x y q q' w') := hid (fun W hW => (cP W).mono fun e w' ⟨he, hb⟩ => ⟨he, hW.next hb⟩)
        have HT := hid (hye ▸ hT : parB x l[k] = T)
        clear hy hye hT cP
        go_upto_region 4 with fail
        go_cut [25] (fun v wx => v = .bool T ∧ Hid (Below w.heap.size w wx))
        case first =>
          go_region_held3 (fun w' => w'.cell? ⟨fb, fo + i * 9, none⟩ = some (.string (ba x.code)) ∧ w'.cell? ⟨fb, fo + i * 9 + 1, none⟩ = some (.string (ba x.course)) ∧ w'.cell? ⟨fb, fo + i * 9 + 2, none⟩ = some (.string (ba x.part)) ∧ w'.cell? ⟨fb, fo + i * 9 + 3, none⟩ = some (.int .i64 x.len) ∧ w'.cell? ⟨fb, fo + i * 9 + 4, none⟩ = some (.slice q.aP x.pats.length q.cP) ∧ w'.cell? ⟨fb, fo + i * 9 + 5, none⟩ = some (.int .i64 x.seats) ∧ w'.cell? ⟨fb, fo + i * 9 + 6, none⟩ = some (.slice q.aF x.feats.length q.cF) ∧ w'.cell? ⟨fb, fo + i * 9 + 7, none⟩ = some (.slice q.aS x.staff.length q.cS) ∧ w'.cell? ⟨fb, fo + i * 9 + 8, none⟩ = some (.slice q.aT x.starts.length q.cT) ∧ w'.cell? ⟨fb, fo + k * 9, none⟩ = some (.string (ba y.code)) ∧ w'.cell? ⟨fb, fo + k * 9 + 1, none⟩ = some (.string (ba y.course)) ∧ w'.cell? ⟨fb, fo + k * 9 + 2, none⟩ = some (.string (ba y.part)) ∧ w'.cell? ⟨fb, fo + k * 9 + 3, none⟩ = some (.int .i64 y.len) ∧ w'.cell? ⟨fb, fo + k * 9 + 4, none⟩ = some (.slice q'.aP y.pats.length q'.cP) ∧ w'.cell? ⟨fb, fo + k * 9 + 5, none⟩ = some (.int .i64 y.seats) ∧ w'.cell? ⟨fb, fo + k * 9 + 6, none⟩ = some (.slice q'.aF y.feats.length q'.cF) ∧ w'.cell? ⟨fb, fo + k * 9 + 7, none⟩ = some (.slice q'.aS y.staff.length q'.cS) ∧ w'.cell? ⟨fb, fo + k * 9 + 8, none⟩ = some (.slice q'.aT y.starts.length q'.cT))
            (first | exact ⟨hk'.x.c0, hk'.x.c1, hk'.x.c2, hk'.x.c3, hk'.x.c4, hk'.x.c5, hk'.x.c6, hk'.x.c7, hk'.x.c8, hk'.y.c0, hk'.y.c1, hk'.y.c2, hk'.y.c3, hk'.y.c4, hk'.y.c5, hk'.y.c6, hk'.y.c7, hk'.y.c8⟩ | exact ⟨(hk'.next (Below.refl _ _).drew).x.c0, (hk'.next (Below.refl _ _).drew).x.c1, (hk'.next (Below.refl _ _).drew).x.c2, (hk'.next (Below.refl _ _).drew).x.c3, (hk'.next (Below.refl _ _).drew).x.c4, (hk'.next (Below.refl _ _).drew).x.c5, (hk'.next (Below.refl _ _).drew).x.c6, (hk'.next (Below.refl _ _).drew).x.c7, (hk'.next (Below.refl _ _).drew).x.c8, (hk'.next (Below.refl _ _).drew).y.c0, (hk'.next (Below.refl _ _).drew).y.c1, (hk'.next (Below.refl _ _).drew).y.c2, (hk'.next (Below.refl _ _).drew).y.c3, (hk'.next (Below.refl _ _).drew).y.c4, (hk'.next (Below.refl _ _).drew).y.c5, (hk'.next (Below.refl _ _).drew).y.c6, (hk'.next (Below.refl _ _).drew).y.c7, (hk'.next (Below.refl _ _).drew).y.c8⟩)
            (first
              | (go_at_call 30; refine (CP.out _ (hk'.next (Below.refl _ _).drew)).mono ?_; rintro e w' ⟨rfl, hk'⟩)
              | (go_at_call 30; refine (CP.out _ hk').mono ?_; rintro e w' ⟨rfl, hk'⟩))
          all_goals
            go_wp2_with fail
            go_meet
            exact ⟨rfl, hid hk'.b⟩
        case rest =>
          obtain ⟨rfl, HB⟩ := hcut
          clear hk' CP
          cases T with
          | true =>
            have HRF : Hid (R = false) := hid (by
              cases hRR : R with
              | false => rfl
              | true =>
                have := HSI.out.1 hRR k hkl hki
                rw [HT.out] at this
                cases this)
            go_wp2
            go_ret
            exact ⟨by rw [HRF.out]; rfl, HB.out⟩
          | false =>
            have HP2 : Hid (∀ j, ∀ hj : j < l.length, j < k + 1 → j ≠ i → parB x l[j] = false) := hid (fun j hj h1 h2 => by
              rcases Nat.lt_or_ge j k with h3 | h3
              · exact hP.out j hj h3 h2
              · obtain rfl : j = k := by omega
                exact HT.out)
            clear hP
            go_wp2
            go_roundw
            case rel => exact ⟨k + 1, by go_num, by omega, HP2, HB⟩
            case measure => simp [RowKit.intOf]; omega
    · have hltz : ¬ (k : Int) < (N : Int) := by omega
      have HRT : Hid (R = true) := hid (HSI.out.2 (fun j hj hne => hP.out j hj (by have := HN.out; omega) hne))
      clear hP
      go_wp2
      go_ret
      exact ⟨by rw [HRT.out]; rfl, hBw.out⟩
end Go.Proofs.YtpaejkhaiifgdaaGreatDoor.S11

set_option linter.unusedVariables false
namespace Go.Proofs.YtpaejkhaiifgdaaGreatDoor.S11
open Go Go.Proofs Go.RowKit Go.Lib Go.Proofs.YtpaejkhaiifgdaaGreatDoor Go.Proofs.YtpaejkhaiifgdaaGreatDoor.S10

theorem pairsOf_sub : ∀ {L1 L2 : List Nat}, L1.Sublist L2 → (pairsOf L1).Sublist (pairsOf L2)
  | _, _, .slnil => List.Sublist.refl _
  | _, _, .cons a h => (pairsOf_sub h).trans (List.sublist_append_right _ _)
  | _, _, .cons_cons a h => (h.map _).append (pairsOf_sub h)
theorem attB_more {cs cs' : List Str} (h : ∀ s ∈ cs, s ∈ cs') {l : List ClassD} {i : Nat} (hi : attB cs l i = true) : attB cs' l i = true := by
  unfold attB at hi ⊢
  cases he : l[i]? with
  | none => rw [he] at hi; simp at hi
  | some x =>
    rw [he] at hi
    simp only [Bool.and_eq_true, decide_eq_true_eq] at hi ⊢
    exact ⟨h _ hi.1, hi.2⟩
theorem attL_more {cs cs' : List Str} (h : ∀ s ∈ cs, s ∈ cs') (l : List ClassD) : (attL cs l).Sublist (attL cs' l) := by
  unfold attL
  have e : (List.range l.length).filter (attB cs l) = ((List.range l.length).filter (attB cs' l)).filter (attB cs l) := by
    rw [List.filter_filter]
    congr 1
    funext i
    cases hb : attB cs l i with
    | false => rfl
    | true => rw [attB_more h hb]; rfl
  rw [e]
  exact List.filter_sublist
theorem pairs_more {cs cs' : List Str} (h : ∀ s ∈ cs, s ∈ cs') (l : List ClassD) : (pairsM cs l).Sublist (pairsM cs' l) := pairsOf_sub (attL_more h l)
theorem pairsOf_mem : ∀ {L : List Nat}, L.Pairwise (· < ·) → ∀ p ∈ pairsOf L, ∃ a ∈ L, ∃ b ∈ L, a < b ∧ p = ((a : Int), (b : Int))
  | [], _, p, hp => by simp [pairsOf] at hp
  | a :: r, h, p, hp => by
    rw [List.pairwise_cons] at h
    rcases List.mem_append.1 hp with hp | hp
    · obtain ⟨b, hb, rfl⟩ := List.mem_map.1 hp
      exact ⟨a, by simp, b, by simp [hb], h.1 b hb, rfl⟩
    · obtain ⟨x, hx, y, hy, hlt, e⟩ := pairsOf_mem h.2 p hp
      exact ⟨x, by simp [hx], y, by simp [hy], hlt, e⟩
/-- What holds of a pair. -/
theorem pair_facts {cs : List Str} {l : List ClassD} {p : StartD} (h : p ∈ pairsM cs l) : ∃ i k, ∃ hi : i < l.length, ∃ hk : k < l.length, p = ((i : Int), (k : Int)) ∧ singleB l i = true ∧ singleB l k = true ∧ parB l[i] l[k] = false := by
  obtain ⟨i, hi, k, hk, hlt, rfl⟩ := pairsOf_mem (List.pairwise_lt_range.filter _) p h
  have hi' := List.mem_filter.1 hi
  have hk' := List.mem_filter.1 hk
  have h1 : i < l.length := by simpa using hi'.1
  have h2 : k < l.length := by simpa using hk'.1
  have s1 := hi'.2
  have s2 := hk'.2
  rw [attB_at h1, Bool.and_eq_true] at s1
  rw [attB_at h2, Bool.and_eq_true] at s2
  exact ⟨i, k, h1, h2, rfl, s1.2, s2.2, (singleB_iff h1).1 s1.2 k h2 (by omega)⟩
theorem sub_skip {a : StartD} {r : List StartD} {b : List StartD} {k : Nat} (hk : k < b.length) (h : (a :: r).Sublist (b.drop k)) (hne : b[k] ≠ a) : (a :: r).Sublist (b.drop (k + 1)) := by
  rw [List.drop_eq_getElem_cons hk] at h
  cases h with
  | cons _ h => exact h
  | cons_cons _ h => exact absurd rfl hne
theorem sub_some {a : StartD} {r : List StartD} {b : List StartD} {k : Nat} (h : (a :: r).Sublist (b.drop k)) : k < b.length := by
  rcases Nat.lt_or_ge k b.length with hk | hk
  · exact hk
  · rw [List.drop_of_length_le hk] at h
    cases h
theorem sub_tail {a : StartD} {r : List StartD} {b : List StartD} {k : Nat} (h : (a :: r).Sublist (b.drop k)) : r.Sublist (b.drop k) := (List.sublist_cons_self a r).trans h
end Go.Proofs.YtpaejkhaiifgdaaGreatDoor.S11

