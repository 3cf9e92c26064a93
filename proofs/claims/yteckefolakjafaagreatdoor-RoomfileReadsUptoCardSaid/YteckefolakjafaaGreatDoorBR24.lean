/-
  The reference's split and dots. Conditions: the string has at most 2^21 bytes.
  The reference's dots. Conditions: the string fits into memory.
  A number with a width: the law's wide. Conditions: the number is not negative and below 2^31; the width is at most 16.
  The reference's written: a number in decimal with a width. Conditions: the number is below ten to the seventeenth, the width at most 16.
-/
import Derived.Test.YteckefolakjafaaGreatDoorBR18
import Derived.Test.YteckefolakjafaaGreatDoorBR23
import Derived.Test.YteckefolakjafaaGreatDoorBR22
import Derived.Test.YteckefolakjafaaGreatDoorBR17
import Derived.Test.YteckefolakjafaaGreatDoorBR01
import Derived.RangeFuncBox
import Derived.Laws.OwnMore
set_option linter.unusedVariables false
namespace Go.Proofs.YteckefolakjafaaGreatDoor.S3
open Go Go.Proofs Go.RowKit Go.Lib

theorem splitL_first : ∀ (l : Str) (i : Nat), l[i]? = some 59 → (∀ j, j < i → l[j]? ≠ some 59) → splitL l = l.take i :: splitL (l.drop (i + 1))
  | [], i, h, _ => by simp at h
  | c :: s, 0, h, _ => by
    have : c = 59 := by simpa using h
    subst this
    simp [splitL]
  | c :: s, i + 1, h, hn => by
    have h0 : c ≠ 59 := fun e => hn 0 (by omega) (by simp [e])
    have ih := splitL_first s i (by simpa using h) (fun j hj => by have := hn (j + 1) (by omega); simpa using this)
    simp [splitL, if_neg h0, ih]
theorem splitL_no : ∀ (l : Str), (∀ j, j < l.length → l[j]? ≠ some 59) → splitL l = [l]
  | [], _ => rfl
  | c :: s, h => by
    have h0 : c ≠ 59 := fun e => h 0 (by simp) (by simp [e])
    have ih := splitL_no s (fun j hj => by have := h (j + 1) (by simp; omega); simpa using this)
    simp [splitL, if_neg h0, ih]
/-- Between two rounds of split. -/
def SplitSt (l : Str) (done : List Str) (a i : Nat) : Prop :=
  (i ≤ l.length → a ≤ l.length ∧ splitL l = done ++ splitL (l.drop a) ∧ ∀ j, a ≤ j → j < i → l[j]? ≠ some 59) ∧ (i = l.length + 1 → done = splitL l)
theorem SplitSt.hit {l : Str} {done : List Str} {a i : Nat} (h : SplitSt l done a i) (hi : i < l.length) (ha : a ≤ i) (hx : l[i]? = some 59) : SplitSt l (done ++ [(l.take i).drop a]) (i + 1) (i + 1) := by
  obtain ⟨h1, h2, h3⟩ := h.1 (by omega)
  have e := splitL_first (l.drop a) (i - a) (by rw [List.getElem?_drop, show a + (i - a) = i by omega]; exact hx) (fun j hj => by rw [List.getElem?_drop]; exact h3 (a + j) (by omega) (by omega))
  rw [List.drop_drop, show a + (i - a + 1) = i + 1 by omega] at e
  refine ⟨fun _ => ⟨by omega, ?_, fun j h1 h2 => by omega⟩, fun h => by omega⟩
  rw [h2, e, List.drop_take]
  simp
theorem SplitSt.miss {l : Str} {done : List Str} {a i : Nat} (h : SplitSt l done a i) (hi : i < l.length) (hx : l[i]? ≠ some 59) : SplitSt l done a (i + 1) := by
  obtain ⟨h1, h2, h3⟩ := h.1 (by omega)
  refine ⟨fun _ => ⟨h1, h2, fun j hj1 hj2 => ?_⟩, fun h => by omega⟩
  rcases Nat.lt_or_ge j i with hji | hji
  · exact h3 j hj1 hji
  · obtain rfl : j = i := by omega
    exact hx
theorem SplitSt.last {l : Str} {done : List Str} {a : Nat} (h : SplitSt l done a l.length) : SplitSt l (done ++ [(l.take l.length).drop a]) (l.length + 1) (l.length + 1) := by
  obtain ⟨h1, h2, h3⟩ := h.1 (Nat.le_refl _)
  have e := splitL_no (l.drop a) (fun j hj => by
    rw [List.getElem?_drop]
    simp at hj
    exact h3 (a + j) (by omega) (by omega))
  refine ⟨fun h => by omega, fun _ => ?_⟩
  rw [h2, e, List.take_length]

set_option maxHeartbeats 4000000 in
set_option maxRecDepth 100000 in
theorem split_any (s : ByteArray) (hs : s.size ≤ 2097152) (w : World) : Calls Tryz.prog 115 #[.string s] w (RowOut (splitL (lst s)) w) := by
  obtain ⟨i9, hi9, hz9, hsi9, hby9⟩ := info_parts infoStr
  have hlen : (lst s).length = s.size := (Lib.size_eq s).symm
  go_enter Tryz.func115, Tryz.ntmps115
  go_wp2
  go_loopw [3, 4, 5] (fun v av iv wr => ∃ (done : List Str) (a i : Nat), av = .int .i64 (a : Int) ∧ iv = .int .i64 (i : Int) ∧ i ≤ s.size + 1 ∧ (i ≤ s.size → a ≤ i) ∧ StrRow wr w.heap.size v done ∧ done.length ≤ i ∧ Hid (SplitSt (lst s) done a i) ∧ Hid (Below w.heap.size w wr)) (fun _ _ iv _ => s.size + 1 - (RowKit.intOf iv).toNat)
  case atStart => exact ⟨[], 0, 0, rfl, rfl, by omega, fun _ => by omega, World.ownsRow_nil _ _ _ _, by simp, hid ⟨fun _ => ⟨by omega, by simp, fun j h1 h2 => by omega⟩, fun h => by omega⟩, hid (Below.refl _ _)⟩
  case round =>
    obtain ⟨done, a, i, rfl, rfl, hi, hai, hrow, hdl, hst, hB⟩ := hrel
    have HRow := hid hrow
    clear hrow
    by_cases hle : i ≤ s.size
    · have hlez : (i : Int) ≤ (s.size : Int) := by omega
      have ha := hai hle
      have haz : (a : Int) ≤ (i : Int) := by omega
      have e1 : IntKind.i64.wrap ((i : Int) + 1) = (i : Int) + 1 := IntWalk.i64_in _ (by omega)
      obtain ⟨X, hX⟩ : ∃ X, s.extract a i = X := ⟨_, rfl⟩
      have lX : lst X = ((lst s).take i).drop a := by rw [← hX, lst_extract]
      have HC3 : Hid (done.length + 1 ≤ maxLen) := by unfold maxLen; exact hid (by omega)
      have HC4 : Hid ((done.length + 1) * 16 ≤ 140737488355328) := hid (by omega)
      have HC5 : Hid (∀ o : Obj, w.heap.size ≤ (wr.alloc o).heap.size) := hid (fun o => by have := hB.out.size; simp; omega)
      have three : (i = s.size) ∨ (∃ h : i < s.size, s[i]'h = 59) ∨ (∃ h : i < s.size, s[i]'h ≠ 59) := by
        rcases Nat.lt_or_ge i s.size with h | h
        · by_cases hx : s[i]'h = 59
          · exact .inr (.inl ⟨h, hx⟩)
          · exact .inr (.inr ⟨h, hx⟩)
        · exact .inl (by omega)
      have fin : ∀ (hst2 : SplitSt (lst s) (done ++ [lst X]) (i + 1) (i + 1)), True := fun _ => trivial
      clear fin
      rcases three with he | ⟨hlt, hx⟩ | ⟨hlt, hx⟩
      · have hez : ((i : Int) == (s.size : Int)) = true := by simp [he]
        have hst2 := hid (show SplitSt (lst s) (done ++ [lst X]) (i + 1) (i + 1) by
          have h := hst.out
          rw [he, ← hlen] at h
          have h2 := h.last
          rw [lX, he, ← hlen]
          exact h2)
        clear lX he hst
        go_wp2_with (first | (at_builtin; refine wpList_append_own _ rfl _ _ 43 rfl w.heap.size 9 i9 (.string ⟨#[]⟩) 1 16 Tryz.underlying43 hi9 hz9 hsi9 hby9 rfl (by decide) _ done.length (strVals done) rfl (World.ownsRow.alloc HRow.out _) ⟨wr.heap.size, 0, none⟩ 1 1 [.string X] rfl rfl (by rw [← hX]; exact one_new _ _ _) (one_str _) HC3.out HC4.out (HC5.out _) ?_))
        intro v' w6 hown' hgrow _
        have hg' := grownBy_of_alloc hgrow
        have hb56 : Below w.heap.size wr w6 := (Below.refl _ wr).grown hg' hB.out.size (fun k hk => (World.ownsRow.lt HRow.out k hk).1)
        have HB6 := hid (hB.out.trans hb56)
        have HRow6 := hid hown'
        clear hown' hgrow hg' hb56
        go_wp2
        go_roundw
        case rel =>
          refine ⟨done ++ [lst X], i + 1, i + 1, by go_num, by go_num, by omega, fun _ => Nat.le_refl _, ?_, by simp; omega, hst2, HB6⟩
          unfold StrRow
          rw [strVals_app, List.length_append]
          have e : strVals [lst X] = [.string X] := by show [strV (lst X)] = _; rw [strV_lst]
          rw [e]
          exact HRow6.out
        case measure => simp [RowKit.intOf]; omega
      · have hez : ((i : Int) == (s.size : Int)) = false := by simp; omega
        have hxz : (((s[i]'hlt).toNat : Int) == 59) = true := by rw [hx]; rfl
        have hg : (lst s)[i]? = some 59 := by rw [lst_get s i hlt, hx]
        have hst2 := hid (show SplitSt (lst s) (done ++ [lst X]) (i + 1) (i + 1) by
          rw [lX]
          exact hst.out.hit (by rw [hlen]; exact hlt) ha hg)
        obtain ⟨x, hxe⟩ : ∃ x, s[i]'hlt = x := ⟨_, rfl⟩
        rw [hxe] at hxz
        clear lX hg hst hx
        go_wp2_with (first | (at_builtin; refine wpList_append_own _ rfl _ _ 43 rfl w.heap.size 9 i9 (.string ⟨#[]⟩) 1 16 Tryz.underlying43 hi9 hz9 hsi9 hby9 rfl (by decide) _ done.length (strVals done) rfl (World.ownsRow.alloc HRow.out _) ⟨wr.heap.size, 0, none⟩ 1 1 [.string X] rfl rfl (by rw [← hX]; exact one_new _ _ _) (one_str _) HC3.out HC4.out (HC5.out _) ?_))
        intro v' w6 hown' hgrow _
        have hg' := grownBy_of_alloc hgrow
        have hb56 : Below w.heap.size wr w6 := (Below.refl _ wr).grown hg' hB.out.size (fun k hk => (World.ownsRow.lt HRow.out k hk).1)
        have HB6 := hid (hB.out.trans hb56)
        have HRow6 := hid hown'
        clear hown' hgrow hg' hb56
        go_wp2
        go_roundw
        case rel =>
          refine ⟨done ++ [lst X], i + 1, i + 1, by go_num, by go_num, by omega, fun _ => Nat.le_refl _, ?_, by simp; omega, hst2, HB6⟩
          unfold StrRow
          rw [strVals_app, List.length_append]
          have e : strVals [lst X] = [.string X] := by show [strV (lst X)] = _; rw [strV_lst]
          rw [e]
          exact HRow6.out
        case measure => simp [RowKit.intOf]; omega
      · have hez : ((i : Int) == (s.size : Int)) = false := by simp; omega
        have hg : (lst s)[i]? ≠ some 59 := by
          rw [lst_get s i hlt]
          intro e
          injection e with e
          exact hx e
        have hxz : (((s[i]'hlt).toNat : Int) == 59) = false := by
          rw [beq_eq_false_iff_ne]
          intro e
          exact hx (UInt8.toNat_inj.1 (by have : (59 : UInt8).toNat = 59 := rfl; omega))
        have hst2 := hid (hst.out.miss (by rw [hlen]; exact hlt) hg)
        obtain ⟨x, hxe⟩ : ∃ x, s[i]'hlt = x := ⟨_, rfl⟩
        rw [hxe] at hxz
        clear lX hg hst hx hX
        go_wp2
        go_roundw
        case rel => exact ⟨done, a, i + 1, rfl, by go_num, by omega, fun _ => by omega, HRow.out, by omega, hst2, hB⟩
        case measure => simp [RowKit.intOf]; omega
    · have hlez : ¬ (i : Int) ≤ (s.size : Int) := by omega
      have hd : done = splitL (lst s) := hst.out.2 (by omega)
      subst hd
      go_wp2
      go_ret
      exact ⟨⟨_, rfl, HRow.out⟩, hB.out⟩
end Go.Proofs.YteckefolakjafaaGreatDoor.S3

set_option linter.unusedVariables false
namespace Go.Proofs.YteckefolakjafaaGreatDoor.S3
open Go Go.Proofs Go.RowKit Go.Lib

theorem u8_46 {x : UInt8} : (x = 46 ∧ ((x.toNat : Int) == 46) = true) ∨ (x ≠ 46 ∧ ((x.toNat : Int) == 46) = false) := by
  by_cases h : x = 46
  · exact .inl ⟨h, by rw [h]; rfl⟩
  · refine .inr ⟨h, ?_⟩
    rw [beq_eq_false_iff_ne]
    intro e
    exact h (UInt8.toNat_inj.1 (by have : (46 : UInt8).toNat = 46 := rfl; omega))

set_option maxHeartbeats 4000000 in
set_option maxRecDepth 100000 in
theorem dots_any (s : ByteArray) (hs : s.size ≤ 4611686018427387904) (w : World) :
    Calls Tryz.prog 116 #[.string s] w fun e w' => (∃ n a : Int, e = .returned (.tuple #[.int .i64 n, .int .i64 a]) ∧ DotsAt (lst s) n a) ∧ w' = w := by
  have hlen : (lst s).length = s.size := (Lib.size_eq s).symm
  go_enter Tryz.func116, Tryz.ntmps116
  go_wp2
  go_loopw [4, 5, 6] (fun nv av iv wr => ∃ (n : Nat) (a : Int) (i : Nat), nv = .int .i64 (n : Int) ∧ av = .int .i64 a ∧ iv = .int .i64 (i : Int) ∧ i ≤ s.size ∧ n ≤ i ∧ Hid (DotsIn (lst s) n a i) ∧ Hid (wr = w)) (fun _ _ iv _ => s.size - (RowKit.intOf iv).toNat)
  case atStart => exact ⟨0, -1, 0, rfl, rfl, rfl, by omega, by omega, hid (DotsIn.start _), by trivial⟩
  case round =>
    obtain ⟨n, a, i, rfl, rfl, rfl, hi, hni, hd, hw⟩ := hrel
    obtain rfl : w = wr := hw.out.symm
    have e1 : IntKind.i64.wrap ((i : Int) + 1) = (i : Int) + 1 := IntWalk.i64_in _ (by omega)
    by_cases hlt : i + 1 < s.size
    · have hltz : (i : Int) + 1 < (s.size : Int) := by omega
      have hi0 : i < s.size := by omega
      have g0 := lst_get s i hi0
      have g1 := lst_get s (i + 1) hlt
      obtain ⟨x, hx⟩ : ∃ x, s[i]'hi0 = x := ⟨_, rfl⟩
      obtain ⟨y, hy⟩ : ∃ y, s[i + 1]'hlt = y := ⟨_, rfl⟩
      rw [hx] at g0
      rw [hy] at g1
      have G0 := hid g0
      have G1 := hid g1
      clear g0 g1
      have e2 : IntKind.i64.wrap ((n : Int) + 1) = (n : Int) + 1 := IntWalk.i64_in _ (by omega)
      have t1 : ((i : Int) + 1).toNat = i + 1 := by omega
      rcases u8_46 (x := x) with ⟨hx46, hxz⟩ | ⟨hx46, hxz⟩
      · rcases u8_46 (x := y) with ⟨hy46, hyz⟩ | ⟨hy46, hyz⟩
        · have hnx := hid (hd.out.hit (by rw [G0.out, hx46]) (by rw [G1.out, hy46]))
          clear hx46 hy46
          by_cases hn0 : n = 0
          · subst hn0
            have hnx2 : Hid (DotsIn (lst s) 1 (i : Int) (i + 2)) := hid (by have := hnx.out; simpa using this)
            clear hnx
            go_wp2
            go_roundw
            case rel => exact ⟨1, (i : Int), i + 2, rfl, rfl, by congr 1, by omega, by omega, hnx2, by trivial⟩
            case measure => simp [RowKit.intOf]; omega
          · have hnb : ((n : Int) == 0) = false := by simpa using hn0
            have hnx2 : Hid (DotsIn (lst s) (n + 1) a (i + 2)) := hid (by have := hnx.out; rwa [if_neg hn0] at this)
            clear hnx hn0
            go_wp2
            go_roundw
            case rel => exact ⟨n + 1, a, i + 2, by go_num, rfl, by congr 1, by omega, by omega, hnx2, by trivial⟩
            case measure => simp [RowKit.intOf]; omega
        · have hnx := hid (hd.out.miss G0.out G1.out (fun h => hy46 h.2))
          clear hx46 hy46
          go_wp2
          go_roundw
          case rel => exact ⟨n, a, i + 1, rfl, rfl, by go_num, by omega, by omega, hnx, by trivial⟩
          case measure => simp [RowKit.intOf]; omega
      · have hnx := hid (hd.out.miss G0.out G1.out (fun h => hx46 h.1))
        clear hx46
        go_wp2
        go_roundw
        case rel => exact ⟨n, a, i + 1, rfl, rfl, by go_num, by omega, by omega, hnx, by trivial⟩
        case measure => simp [RowKit.intOf]; omega
    · have hltz : ¬ (i : Int) + 1 < (s.size : Int) := by omega
      have hfin := hid (hd.out.done (by rw [hlen]; omega))
      go_wp2
      go_ret2
      exact ⟨⟨_, _, rfl, hfin.out⟩, rfl⟩
end Go.Proofs.YteckefolakjafaaGreatDoor.S3

set_option linter.unusedVariables false
namespace Go.Proofs.YteckefolakjafaaGreatDoor.S3
open Go Go.Proofs Go.RowKit Go.Lib

def sLen (v : Value) : Nat := match v with | .string b => b.size | _ => 0
def one48 (d : Nat) : UInt8 := UInt8.ofNat (48 + d)
theorem byte48 (d : Nat) (h : d < 10) : (48 + d).toUInt8 = one48 d := rfl
/-- Between two rounds of the first loop. -/
def WideAt (n u : Nat) (s : Str) : Prop := (s = [] ∧ u = n) ∨ (s ≠ [] ∧ ((u = 0 ∧ s = decDigits n) ∨ (0 < u ∧ decDigits u ++ s = decDigits n)))
theorem WideAt.step {n u : Nat} {s : Str} (h : WideAt n u s) (hg : 0 < u ∨ s = []) : WideAt n (u / 10) (one48 (u % 10) :: s) := by
  have hd : u % 10 < 10 := Nat.mod_lt _ (by omega)
  refine .inr ⟨by simp, ?_⟩
  by_cases hm : u / 10 = 0
  · have hu : u < 10 := by omega
    have hmod : u % 10 = u := Nat.mod_eq_of_lt hu
    refine .inl ⟨hm, ?_⟩
    rw [hmod]
    rcases h with ⟨rfl, rfl⟩ | ⟨hs, ⟨h0, _⟩ | ⟨h0, h1⟩⟩
    · rw [dec_small hu]; rfl
    · rcases hg with hg | hg
      · omega
      · exact absurd hg hs
    · rw [← h1, dec_small hu]; rfl
  · have hu : u = 10 * (u / 10) + u % 10 := by omega
    have hst : decDigits u = decDigits (u / 10) ++ [one48 (u % 10)] := by
      have := dec_step (u / 10) (u % 10) (by omega) hd
      rw [← hu] at this
      exact this
    refine .inr ⟨by omega, ?_⟩
    rcases h with ⟨rfl, rfl⟩ | ⟨hs, ⟨h0, _⟩ | ⟨h0, h1⟩⟩
    · rw [hst]
    · omega
    · rw [← h1, hst]; simp
theorem WideAt.done {n u : Nat} {s : Str} (h : WideAt n u s) (hg : ¬ (0 < u ∨ s = [])) : s = decDigits n := by
  rcases h with ⟨rfl, rfl⟩ | ⟨hs, ⟨h0, h1⟩ | ⟨h0, _⟩⟩
  · exact absurd (.inr rfl) hg
  · exact h1
  · exact absurd (.inl h0) hg

theorem WideAt.len {n u : Nat} {s : Str} (h : WideAt n u s) (hn : n < 2147483648) : s.length ≤ 10 := by
  have hl := dec_len n 10 (by omega) (by omega)
  rcases h with ⟨rfl, rfl⟩ | ⟨hs, ⟨h0, h1⟩ | ⟨h0, h1⟩⟩
  · simp
  · rw [h1]; exact hl
  · have := congrArg List.length h1
    rw [List.length_append] at this
    omega
theorem conv48 (w : World) (u : Nat) : (convert 78 9 (Value.slice (some ⟨w.heap.size, 0, none⟩) 1 1)).run Tryz.prog (w.alloc (Obj.cells #[Value.int IntKind.u8 (48 + (u : Int) % 10)] 5)) =
    .ok (.string ⟨#[one48 (u % 10)]⟩) (w.alloc (Obj.cells #[Value.int IntKind.u8 (48 + (u : Int) % 10)] 5)) := by
  refine run_convert_bytes_back _ 78 9 5 ⟨w.heap.size, 0, none⟩ 1 [one48 (u % 10)] (by kernel_rfl) (by kernel_rfl) (by kernel_rfl) (fun j hj => ?_)
  obtain rfl : j = 0 := by simpa using hj
  have hd : u % 10 < 10 := Nat.mod_lt _ (by omega)
  have : ((one48 (u % 10)).toNat : Int) = 48 + (u : Int) % 10 := by
    unfold one48
    rw [ofNat_val hd]
    omega
  simp only [List.getElem_cons_zero, this]
  exact (Boxed.new w 5 (Value.int IntKind.u8 (48 + (u : Int) % 10))).cell

end Go.Proofs.YteckefolakjafaaGreatDoor.S3

set_option linter.unusedVariables false
namespace Go.Proofs.YteckefolakjafaaGreatDoor.S3
open Go Go.Proofs Go.RowKit Go.Lib

theorem WideAt.short {n u : Nat} {s : Str} (h : WideAt n u s) : s.length ≤ (decDigits n).length := by
  rcases h with ⟨rfl, rfl⟩ | ⟨hs, ⟨h0, h1⟩ | ⟨h0, h1⟩⟩
  · simp
  · rw [h1]; exact Nat.le_refl _
  · have := congrArg List.length h1
    rw [List.length_append] at this
    omega
/-- A slice's length. -/
def vLen : Value → Nat | .slice _ n _ => n | _ => 0
def BRow (w : World) (B : Nat) (v : Value) (l : List UInt8) : Prop := w.ownsRow B 5 1 v l.length (byteCells l)
theorem byte_one (l : List UInt8) : ∀ u ∈ byteCells l, u.oneCell' = true := by
  intro u hu
  obtain ⟨x, _, rfl⟩ := List.mem_map.1 hu
  exact one_one .u8 (x.toNat : Int) _ (List.mem_singleton.2 rfl)
theorem one48_val (u : Nat) : ((one48 (u % 10)).toNat : Int) = 48 + (u : Int) % 10 := by
  have hd : u % 10 < 10 := Nat.mod_lt _ (by omega)
  unfold one48
  rw [ofNat_val hd]
  omega
theorem BRow.some {w : World} {B : Nat} {v : Value} {l : List UInt8} (h : BRow w B v l) (hl : l ≠ []) : ∃ g cap, v = .slice (some ⟨g, 0, none⟩) l.length cap ∧ B ≤ g ∧ ∀ j u, (byteCells l)[j]? = some u → w.cell? ((⟨g, 0, none⟩ : Addr).add j) = some u := by
  have h' := h
  rcases h.2 with ⟨_, h0⟩ | ⟨g, cap, cur, rfl, hB, _⟩
  · exact absurd (List.eq_nil_of_length_eq_zero h0) hl
  · exact ⟨g, cap, rfl, hB, World.ownsRow.cells h' rfl⟩
theorem new_byte (w : World) (B : Nat) (hB : B ≤ w.heap.size) (z : Value) : (w.alloc (.cells #[z] 5)).ownsRow B 5 1 (.slice (some ⟨w.heap.size, 0, none⟩) 1 1) 1 [z] :=
  World.ownsRow_lit w #[z] 1 hB (by decide) rfl
theorem new_below (w : World) (B : Nat) (hB : B ≤ w.heap.size) (o : Obj) : Below B w (w.alloc o) := (Below.refl w.heap.size w).alloc (Nat.le_refl _) o |>.mono hB

set_option maxHeartbeats 8000000 in
set_option maxRecDepth 100000 in
theorem written_any (n k : Nat) (hn : n < 100000000000000000) (hk : k ≤ 16) (w : World) : Calls Tryz.prog 71 #[.int .i64 (n : Int), .int .i64 (k : Int)] w fun e w' => e = .returned (.string (ba (wrS n k))) ∧ Below w.heap.size w w' := by
  have hdl := dec_len n 17 (by omega) (by omega)
  obtain ⟨i5, hi5, hz5, hsi5, hby5⟩ := info_parts infoByte
  go_enter Tryz.func71, Tryz.ntmps71
  go_wp2
  go_loopw [0, 5] (fun uv v wr => ∃ (u : Nat) (bs : Str), uv = .int .i64 (u : Int) ∧ BRow wr w.heap.size v bs ∧ u ≤ n ∧ Hid (WideAt n u bs) ∧ Hid (bs = [] → v = .slice none 0 0) ∧ Hid (Below w.heap.size w wr)) (fun uv v _ => 2 * (RowKit.intOf uv).toNat + (1 - vLen v))
  case atStart => exact ⟨n, [], rfl, World.ownsRow_nil _ _ _ _, Nat.le_refl _, hid (.inl ⟨rfl, rfl⟩), hid (fun _ => rfl), hid (Below.refl _ _)⟩
  case round =>
    obtain ⟨u, bs, rfl, hrow, hun, HW, hnil, HB⟩ := hrel
    have hsz := HB.out.size
    have hbl := HW.out.short
    have hu62 : u < 100000000000000000 := by omega
    by_cases hbs : bs = []
    · have hv := hnil.out hbs
      subst hv
      by_cases hu : 0 < u
      · have hu1 : decide (0 < (u : Int)) = true := decide_eq_true (by omega)
        have hu2 : (0 : Int) < (u : Int) := by omega
        have hap := run_append_owned_none (P := Tryz.prog) (w := wr.alloc (Obj.cells #[Value.int IntKind.u8 (48 + (u : Int) % 10)] 5)) w.heap.size 78 78 5 i5 1 Tryz.underlying78 hi5 _ 1 _ (new_byte wr w.heap.size hsz (Value.int IntKind.u8 (48 + (u : Int) % 10)))
        have hB2 := hid (HB.out.trans (new_below wr w.heap.size hsz (Obj.cells #[Value.int IntKind.u8 (48 + (u : Int) % 10)] 5)))
        go_wp2
        go_roundw
        case rel =>
          refine ⟨u / 10, one48 (u % 10) :: bs, by simp, ?_, by omega, hid (HW.out.step (.inl hu)), hid (fun h => by cases h), hB2⟩
          subst hbs
          unfold BRow
          show World.ownsRow _ _ _ _ _ 1 [Value.int .u8 ((one48 (u % 10)).toNat : Int)]
          rw [one48_val]
          exact new_byte wr w.heap.size hsz _
        case measure => simp [RowKit.intOf, vLen]; omega
      · obtain rfl : u = 0 := by omega
        have hap := run_append_owned_none (P := Tryz.prog) (w := wr.alloc (Obj.cells #[Value.int IntKind.u8 48] 5)) w.heap.size 78 78 5 i5 1 Tryz.underlying78 hi5 _ 1 _ (new_byte wr w.heap.size hsz (Value.int IntKind.u8 48))
        have hB2 := hid (HB.out.trans (new_below wr w.heap.size hsz (Obj.cells #[Value.int IntKind.u8 48] 5)))
        subst hbs
        go_wp2
        go_roundw
        case rel =>
          refine ⟨0, [one48 0], by simp, ?_, by omega, hid (HW.out.step (.inr rfl)), hid (fun h => by cases h), hB2⟩
          unfold BRow
          exact new_byte wr w.heap.size hsz _
        case measure => simp [RowKit.intOf, vLen]
    · obtain ⟨g, cap, rfl, hg, hcell⟩ := hrow.some hbs
      have hbpos : 0 < bs.length := List.length_pos_iff.2 hbs
      by_cases hu : 0 < u
      · have hu1 : decide (0 < (u : Int)) = true := decide_eq_true (by omega)
        have hu2 : (0 : Int) < (u : Int) := by omega
        have hcell2 : ∀ (o : Obj) j z, (byteCells bs)[j]? = some z → (wr.alloc o).cell? ((⟨g, 0, none⟩ : Addr).add j) = some z := fun o => (World.ownsRow.alloc hrow o).cells rfl
        have HC := hid hcell2
        have HC3 : Hid (1 + bs.length ≤ maxLen) := by unfold maxLen; exact hid (by omega)
        have HC4 : Hid ((1 + bs.length) * 1 ≤ 140737488355328) := hid (by omega)
        have HC5 : Hid (∀ o : Obj, w.heap.size ≤ (wr.alloc o).heap.size) := hid (fun o => by simp; omega)
        clear hcell hcell2
        go_wp2_with (at_builtin; refine wpList_append_own _ rfl _ _ 78 rfl w.heap.size 5 i5 (.int .u8 0) 1 1 Tryz.underlying78 hi5 hz5 hsi5 hby5 rfl (by decide) _ 1 [Value.int IntKind.u8 (48 + (u : Int) % 10)] rfl (new_byte wr w.heap.size hsz _) ⟨g, 0, none⟩ bs.length cap (byteCells bs) rfl (by rw [byteCells_len]; simp) (HC.out _) (byte_one _) HC3.out HC4.out (HC5.out _) ?_)
        intro v' w4 hown' hgrow _
        have hg' := grownBy_of_alloc hgrow
        have hb24 : Below w.heap.size wr w4 := (Below.refl _ wr).grown hg' hsz (fun k hk => by simp [Value.ownBlock] at hk; omega)
        have hrow4 : BRow w4 w.heap.size v' (one48 (u % 10) :: bs) := by
          unfold BRow
          show World.ownsRow _ _ _ _ _ (bs.length + 1) (Value.int .u8 ((one48 (u % 10)).toNat : Int) :: byteCells bs)
          rw [one48_val, Nat.add_comm]
          exact hown'
        obtain ⟨g', cap', rfl, _, _⟩ := hrow4.some (by simp)
        have HR4 := hid hrow4
        have HB4 := hid (HB.out.trans hb24)
        clear hb24 hg' hgrow hown' hrow4 hrow hnil HC HC3 HC4 HC5
        go_wp2
        go_roundw
        case rel => exact ⟨u / 10, one48 (u % 10) :: bs, by simp, HR4.out, by omega, hid (HW.out.step (.inl hu)), hid (fun h => by cases h), HB4⟩
        case measure => simp [RowKit.intOf, vLen]; omega
      · have hu2 : ¬ (0 : Int) < (u : Int) := by omega
        have hdec : bs = decDigits n := HW.out.done (by rintro (h | h); omega; exact hbs h)
        have hbz : ¬ ((bs.length : Int) = 0) := by omega
        have hbz2 : ((bs.length : Int) == 0) = false := by simpa using hbs
        have HROW := hid hrow
        have HDEC := hid hdec
        clear hcell hrow hnil hdec
        go_wp2
        go_loopw [5] (fun v wq => ∃ (j : Nat) (cs : Str), BRow wq w.heap.size v cs ∧ cs ≠ [] ∧ Hid (cs = zerosS j ++ decDigits n) ∧ Hid (j = 0 ∨ j + (decDigits n).length ≤ k) ∧ Hid (Below w.heap.size w wq)) (fun v _ => k - vLen v)
        case atStart => exact ⟨0, bs, HROW.out, hbs, hid (by rw [HDEC.out]; rfl), hid (.inl rfl), HB⟩
        case round =>
          obtain ⟨j, cs, hrow, hcs, hcz, hj, HB⟩ := hrel
          obtain ⟨g, cap, rfl, hg, hcell⟩ := hrow.some hcs
          have hlen : Hid (cs.length = j + (decDigits n).length) := hid (by rw [hcz.out]; simp [zerosS])
          have hcl : cs.length ≤ 17 := by
            have h1 := hlen.out
            rcases hj.out with h | h <;> omega
          have hsz := HB.out.size
          by_cases hlt : cs.length < k
          · have hltz : (cs.length : Int) < (k : Int) := by omega
            have hcell2 : ∀ (o : Obj) j z, (byteCells cs)[j]? = some z → (wr.alloc o).cell? ((⟨g, 0, none⟩ : Addr).add j) = some z := fun o => (World.ownsRow.alloc hrow o).cells rfl
            have HC := hid hcell2
            have HC3 : Hid (1 + cs.length ≤ maxLen) := by unfold maxLen; exact hid (by omega)
            have HC4 : Hid ((1 + cs.length) * 1 ≤ 140737488355328) := hid (by omega)
            have HC5 : Hid (∀ o : Obj, w.heap.size ≤ (wr.alloc o).heap.size) := hid (fun o => by simp; omega)
            clear hcell hcell2
            go_wp2_with (at_builtin; refine wpList_append_own _ rfl _ _ 78 rfl w.heap.size 5 i5 (.int .u8 0) 1 1 Tryz.underlying78 hi5 hz5 hsi5 hby5 rfl (by decide) _ 1 [Value.int IntKind.u8 48] rfl (new_byte wr w.heap.size hsz _) ⟨g, 0, none⟩ cs.length cap (byteCells cs) rfl (by rw [byteCells_len]; simp) (HC.out _) (byte_one _) HC3.out HC4.out (HC5.out _) ?_)
            intro v' w4 hown' hgrow _
            have hg' := grownBy_of_alloc hgrow
            have hb24 : Below w.heap.size wr w4 := (Below.refl _ wr).grown hg' hsz (fun k hk => by simp [Value.ownBlock] at hk; omega)
            have hrow4 : BRow w4 w.heap.size v' (48 :: cs) := by
              unfold BRow
              show World.ownsRow _ _ _ _ _ (cs.length + 1) (Value.int .u8 48 :: byteCells cs)
              rw [Nat.add_comm]
              exact hown'
            obtain ⟨g', cap', rfl, _, _⟩ := hrow4.some (by simp)
            have HR4 := hid hrow4
            have HB4 := hid (HB.out.trans hb24)
            clear hb24 hg' hgrow hown' hrow4 hrow HC HC3 HC4 HC5
            go_wp2
            go_roundw
            case rel => exact ⟨j + 1, 48 :: cs, HR4.out, by simp, hid (by rw [hcz.out]; simp [zerosS, List.replicate_succ]), hid (.inr (by have := hlen.out; omega)), HB4⟩
            case measure => simp [vLen]; omega
          · have hltz : ¬ (cs.length : Int) < (k : Int) := by omega
            have hcv := row_string (P := Tryz.prog) hrow 78 5 9 Tryz.underlying78 Tryz.underlying5 Tryz.underlying9
            have hz : Hid (⟨cs.toArray⟩ = ba (wrS n k)) := hid (by
              have hjk : j = k - (decDigits n).length := by
                have h1 := hlen.out
                rcases hj.out with h | h <;> omega
              show ba cs = _
              rw [hcz.out, hjk]
              rfl)
            clear hcell hrow hcz
            go_wp2
            go_ret
            exact ⟨by rw [← hz.out]; rfl, HB.out⟩
end Go.Proofs.YteckefolakjafaaGreatDoor.S3

