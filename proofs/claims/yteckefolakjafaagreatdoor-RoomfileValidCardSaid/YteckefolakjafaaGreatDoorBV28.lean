/-
  The reference's written: a number in decimal with a width. Conditions: the number is below ten to the seventeenth, the width at most 16.
  The reference's follows: whether a code is the next one of another. Conditions: both are at most 16 bytes long, the width is at most 16.
  The runs of the reference's Join, one after another: mathematics.
-/
import Derived.Test.YteckefolakjafaaGreatDoorBV27
import Derived.Test.YteckefolakjafaaGreatDoorBV01
import Derived.Test.YteckefolakjafaaGreatDoorBV17
import Derived.Test.YteckefolakjafaaGreatDoorBV19
import Derived.Test.YteckefolakjafaaGreatDoorBV16
import Derived.Laws.OwnMore
set_option linter.unusedVariables false
namespace Go.Proofs.YteckefolakjafaaGreatDoor.S3
open Go Go.Proofs Go.RowKit Go.Lib

theorem WideAt.short {n u : Nat} {s : Str} (h : WideAt n u s) : s.length ≤ (decDigits n).length := by
  rcases h with ⟨rfl, rfl⟩ | ⟨hs, ⟨h0, h1⟩ | ⟨h0, h1⟩⟩
  · simp
  · rw [h1]; exact Nat.le_refl _
  · have := congrArg List.length h1
    rw [List.length_append] at this
    omega
/-- A slice's length. -/
def vLen : Value → Nat | .slice _ n _ => n | _ => 0
def BRow (w : World) (B : Nat) (v : Value) (l : List UInt8) : Prop := w.ownsRow B 5 1 v l.length (byteCells l)
theorem byte_one (l : List UInt8) : ∀ u ∈ byteCells l, u.oneCell' = true := by
  intro u hu
  obtain ⟨x, _, rfl⟩ := List.mem_map.1 hu
  exact one_one .u8 (x.toNat : Int) _ (List.mem_singleton.2 rfl)
theorem one48_val (u : Nat) : ((one48 (u % 10)).toNat : Int) = 48 + (u : Int) % 10 := by
  have hd : u % 10 < 10 := Nat.mod_lt _ (by omega)
  unfold one48
  rw [ofNat_val hd]
  omega
theorem BRow.some {w : World} {B : Nat} {v : Value} {l : List UInt8} (h : BRow w B v l) (hl : l ≠ []) : ∃ g cap, v = .slice (some ⟨g, 0, none⟩) l.length cap ∧ B ≤ g ∧ ∀ j u, (byteCells l)[j]? = some u → w.cell? ((⟨g, 0, none⟩ : Addr).add j) = some u := by
  have h' := h
  rcases h.2 with ⟨_, h0⟩ | ⟨g, cap, cur, rfl, hB, _⟩
  · exact absurd (List.eq_nil_of_length_eq_zero h0) hl
  · exact ⟨g, cap, rfl, hB, World.ownsRow.cells h' rfl⟩
theorem new_byte (w : World) (B : Nat) (hB : B ≤ w.heap.size) (z : Value) : (w.alloc (.cells #[z] 5)).ownsRow B 5 1 (.slice (some ⟨w.heap.size, 0, none⟩) 1 1) 1 [z] :=
  World.ownsRow_lit w #[z] 1 hB (by decide) rfl
theorem new_below (w : World) (B : Nat) (hB : B ≤ w.heap.size) (o : Obj) : Below B w (w.alloc o) := (Below.refl w.heap.size w).alloc (Nat.le_refl _) o |>.mono hB

set_option maxHeartbeats 8000000 in
set_option maxRecDepth 100000 in
theorem written_any (n k : Nat) (hn : n < 100000000000000000) (hk : k ≤ 16) (w : World) : Calls Tryz.prog 71 #[.int .i64 (n : Int), .int .i64 (k : Int)] w fun e w' => e = .returned (.string (ba (wrS n k))) ∧ Below w.heap.size w w' := by
  have hdl := dec_len n 17 (by omega) (by omega)
  obtain ⟨i5, hi5, hz5, hsi5, hby5⟩ := info_parts infoByte
  go_enter Tryz.func71, Tryz.ntmps71
  go_wp2
  go_loopw [0, 5] (fun uv v wr => ∃ (u : Nat) (bs : Str), uv = .int .i64 (u : Int) ∧ BRow wr w.heap.size v bs ∧ u ≤ n ∧ Hid (WideAt n u bs) ∧ Hid (bs = [] → v = .slice none 0 0) ∧ Hid (Below w.heap.size w wr)) (fun uv v _ => 2 * (RowKit.intOf uv).toNat + (1 - vLen v))
  case atStart => exact ⟨n, [], rfl, World.ownsRow_nil _ _ _ _, Nat.le_refl _, hid (.inl ⟨rfl, rfl⟩), hid (fun _ => rfl), hid (Below.refl _ _)⟩
  case round =>
    obtain ⟨u, bs, rfl, hrow, hun, HW, hnil, HB⟩ := hrel
    have hsz := HB.out.size
    have hbl := HW.out.short
    have hu62 : u < 100000000000000000 := by omega
    by_cases hbs : bs = []
    · have hv := hnil.out hbs
      subst hv
      by_cases hu : 0 < u
      · have hu1 : decide (0 < (u : Int)) = true := decide_eq_true (by omega)
        have hu2 : (0 : Int) < (u : Int) := by omega
        have hap := run_append_owned_none (P := Tryz.prog) (w := wr.alloc (Obj.cells #[Value.int IntKind.u8 (48 + (u : Int) % 10)] 5)) w.heap.size 78 78 5 i5 1 Tryz.underlying78 hi5 _ 1 _ (new_byte wr w.heap.size hsz (Value.int IntKind.u8 (48 + (u : Int) % 10)))
        have hB2 := hid (HB.out.trans (new_below wr w.heap.size hsz (Obj.cells #[Value.int IntKind.u8 (48 + (u : Int) % 10)] 5)))
        go_wp2
        go_roundw
        case rel =>
          refine ⟨u / 10, one48 (u % 10) :: bs, by simp, ?_, by omega, hid (HW.out.step (.inl hu)), hid (fun h => by cases h), hB2⟩
          subst hbs
          unfold BRow
          show World.ownsRow _ _ _ _ _ 1 [Value.int .u8 ((one48 (u % 10)).toNat : Int)]
          rw [one48_val]
          exact new_byte wr w.heap.size hsz _
        case measure => simp [RowKit.intOf, vLen]; omega
      · obtain rfl : u = 0 := by omega
        have hap := run_append_owned_none (P := Tryz.prog) (w := wr.alloc (Obj.cells #[Value.int IntKind.u8 48] 5)) w.heap.size 78 78 5 i5 1 Tryz.underlying78 hi5 _ 1 _ (new_byte wr w.heap.size hsz (Value.int IntKind.u8 48))
        have hB2 := hid (HB.out.trans (new_below wr w.heap.size hsz (Obj.cells #[Value.int IntKind.u8 48] 5)))
        subst hbs
        go_wp2
        go_roundw
        case rel =>
          refine ⟨0, [one48 0], by simp, ?_, by omega, hid (HW.out.step (.inr rfl)), hid (fun h => by cases h), hB2⟩
          unfold BRow
          exact new_byte wr w.heap.size hsz _
        case measure => simp [RowKit.intOf, vLen]
    · obtain ⟨g, cap, rfl, hg, hcell⟩ := hrow.some hbs
      have hbpos : 0 < bs.length := List.length_pos_iff.2 hbs
      by_cases hu : 0 < u
      · have hu1 : decide (0 < (u : Int)) = true := decide_eq_true (by omega)
        have hu2 : (0 : Int) < (u : Int) := by omega
        have hcell2 : ∀ (o : Obj) j z, (byteCells bs)[j]? = some z → (wr.alloc o).cell? ((⟨g, 0, none⟩ : Addr).add j) = some z := fun o => (World.ownsRow.alloc hrow o).cells rfl
        have HC := hid hcell2
        have HC3 : Hid (1 + bs.length ≤ maxLen) := by unfold maxLen; exact hid (by omega)
        have HC4 : Hid ((1 + bs.length) * 1 ≤ 140737488355328) := hid (by omega)
        have HC5 : Hid (∀ o : Obj, w.heap.size ≤ (wr.alloc o).heap.size) := hid (fun o => by simp; omega)
        clear hcell hcell2
        go_wp2_with (at_builtin; refine wpList_append_own _ rfl _ _ 78 rfl w.heap.size 5 i5 (.int .u8 0) 1 1 Tryz.underlying78 hi5 hz5 hsi5 hby5 rfl (by decide) _ 1 [Value.int IntKind.u8 (48 + (u : Int) % 10)] rfl (new_byte wr w.heap.size hsz _) ⟨g, 0, none⟩ bs.length cap (byteCells bs) rfl (by rw [byteCells_len]; simp) (HC.out _) (byte_one _) HC3.out HC4.out (HC5.out _) ?_)
        intro v' w4 hown' hgrow _
        have hg' := grownBy_of_alloc hgrow
        have hb24 : Below w.heap.size wr w4 := (Below.refl _ wr).grown hg' hsz (fun k hk => by simp [Value.ownBlock] at hk; omega)
        have hrow4 : BRow w4 w.heap.size v' (one48 (u % 10) :: bs) := by
          unfold BRow
          show World.ownsRow _ _ _ _ _ (bs.length + 1) (Value.int .u8 ((one48 (u % 10)).toNat : Int) :: byteCells bs)
          rw [one48_val, Nat.add_comm]
          exact hown'
        obtain ⟨g', cap', rfl, _, _⟩ := hrow4.some (by simp)
        have HR4 := hid hrow4
        have HB4 := hid (HB.out.trans hb24)
        clear hb24 hg' hgrow hown' hrow4 hrow hnil HC HC3 HC4 HC5
        go_wp2
        go_roundw
        case rel => exact ⟨u / 10, one48 (u % 10) :: bs, by simp, HR4.out, by omega, hid (HW.out.step (.inl hu)), hid (fun h => by cases h), HB4⟩
        case measure => simp [RowKit.intOf, vLen]; omega
      · have hu2 : ¬ (0 : Int) < (u : Int) := by omega
        have hdec : bs = decDigits n := HW.out.done (by rintro (h | h); omega; exact hbs h)
        have hbz : ¬ ((bs.length : Int) = 0) := by omega
        have hbz2 : ((bs.length : Int) == 0) = false := by simpa using hbs
        have HROW := hid hrow
        have HDEC := hid hdec
        clear hcell hrow hnil hdec
        go_wp2
        go_loopw [5] (fun v wq => ∃ (j : Nat) (cs : Str), BRow wq w.heap.size v cs ∧ cs ≠ [] ∧ Hid (cs = zerosS j ++ decDigits n) ∧ Hid (j = 0 ∨ j + (decDigits n).length ≤ k) ∧ Hid (Below w.heap.size w wq)) (fun v _ => k - vLen v)
        case atStart => exact ⟨0, bs, HROW.out, hbs, hid (by rw [HDEC.out]; rfl), hid (.inl rfl), HB⟩
        case round =>
          obtain ⟨j, cs, hrow, hcs, hcz, hj, HB⟩ := hrel
          obtain ⟨g, cap, rfl, hg, hcell⟩ := hrow.some hcs
          have hlen : Hid (cs.length = j + (decDigits n).length) := hid (by rw [hcz.out]; simp [zerosS])
          have hcl : cs.length ≤ 17 := by
            have h1 := hlen.out
            rcases hj.out with h | h <;> omega
          have hsz := HB.out.size
          by_cases hlt : cs.length < k
          · have hltz : (cs.length : Int) < (k : Int) := by omega
            have hcell2 : ∀ (o : Obj) j z, (byteCells cs)[j]? = some z → (wr.alloc o).cell? ((⟨g, 0, none⟩ : Addr).add j) = some z := fun o => (World.ownsRow.alloc hrow o).cells rfl
            have HC := hid hcell2
            have HC3 : Hid (1 + cs.length ≤ maxLen) := by unfold maxLen; exact hid (by omega)
            have HC4 : Hid ((1 + cs.length) * 1 ≤ 140737488355328) := hid (by omega)
            have HC5 : Hid (∀ o : Obj, w.heap.size ≤ (wr.alloc o).heap.size) := hid (fun o => by simp; omega)
            clear hcell hcell2
            go_wp2_with (at_builtin; refine wpList_append_own _ rfl _ _ 78 rfl w.heap.size 5 i5 (.int .u8 0) 1 1 Tryz.underlying78 hi5 hz5 hsi5 hby5 rfl (by decide) _ 1 [Value.int IntKind.u8 48] rfl (new_byte wr w.heap.size hsz _) ⟨g, 0, none⟩ cs.length cap (byteCells cs) rfl (by rw [byteCells_len]; simp) (HC.out _) (byte_one _) HC3.out HC4.out (HC5.out _) ?_)
            intro v' w4 hown' hgrow _
            have hg' := grownBy_of_alloc hgrow
            have hb24 : Below w.heap.size wr w4 := (Below.refl _ wr).grown hg' hsz (fun k hk => by simp [Value.ownBlock] at hk; omega)
            have hrow4 : BRow w4 w.heap.size v' (48 :: cs) := by
              unfold BRow
              show World.ownsRow _ _ _ _ _ (cs.length + 1) (Value.int .u8 48 :: byteCells cs)
              rw [Nat.add_comm]
              exact hown'
            obtain ⟨g', cap', rfl, _, _⟩ := hrow4.some (by simp)
            have HR4 := hid hrow4
            have HB4 := hid (HB.out.trans hb24)
            clear hb24 hg' hgrow hown' hrow4 hrow HC HC3 HC4 HC5
            go_wp2
            go_roundw
            case rel => exact ⟨j + 1, 48 :: cs, HR4.out, by simp, hid (by rw [hcz.out]; simp [zerosS, List.replicate_succ]), hid (.inr (by have := hlen.out; omega)), HB4⟩
            case measure => simp [vLen]; omega
          · have hltz : ¬ (cs.length : Int) < (k : Int) := by omega
            have hcv := row_string (P := Tryz.prog) hrow 78 5 9 Tryz.underlying78 Tryz.underlying5 Tryz.underlying9
            have hz : Hid (⟨cs.toArray⟩ = ba (wrS n k)) := hid (by
              have hjk : j = k - (decDigits n).length := by
                have h1 := hlen.out
                rcases hj.out with h | h <;> omega
              show ba cs = _
              rw [hcz.out, hjk]
              rfl)
            clear hcell hrow hcz
            go_wp2
            go_ret
            exact ⟨by rw [← hz.out]; rfl, HB.out⟩
end Go.Proofs.YteckefolakjafaaGreatDoor.S3

set_option linter.unusedVariables false
namespace Go.Proofs.YteckefolakjafaaGreatDoor.S3
open Go Go.Proofs Go.RowKit Go.Lib

/-- Whether a code is the next one of another, in a width. -/
def followsB (c p : Str) (k : Nat) : Bool := hasL p && decide (c = preS p ++ wrS (numL p + 1) k)

set_option maxHeartbeats 4000000 in
set_option maxRecDepth 100000 in
theorem follows_any (c p : ByteArray) (k : Nat) (hc : c.size ≤ 16) (hp : p.size ≤ 16) (hk : k ≤ 16) (w : World) :
    Calls Tryz.prog 39 #[.string c, .string p, .int .i64 (k : Int)] w fun e w' => e = .returned (.bool (followsB (lst c) (lst p) k)) ∧ Below w.heap.size w w' := by
  have cT := tail_any p hp
  obtain ⟨h16l, h16p⟩ := last_len (lst p) (by rw [← Lib.size_eq]; exact hp)
  have hdg := last_dgs (lst p)
  have hnum : numL (lst p) < 10000000000000001 := by
    have h1 := numN_lt _ hdg
    have h2 : 10 ^ (lastS (lst p)).length ≤ 10 ^ 16 := Nat.pow_le_pow_right (by omega) h16l
    have h3 : 10 ^ 16 = 10000000000000000 := by decide
    unfold numL
    omega
  have cN := number_any (ba (lastS (lst p))) h16l hdg
  rw [show numN (lst (ba (lastS (lst p)))) = numL (lst p) from rfl] at cN
  obtain ⟨ANS, hANS⟩ : ∃ ANS, followsB (lst c) (lst p) k = ANS := ⟨_, rfl⟩
  rw [hANS]
  unfold followsB hasL at hANS
  have hsz : (ba (lastS (lst p))).size = (lastS (lst p)).length := rfl
  have hfz : (ba (preS (lst p))).size = (preS (lst p)).length := rfl
  obtain ⟨N, hN⟩ : ∃ N, numL (lst p) = N := ⟨_, rfl⟩
  rw [hN] at cN hnum hANS
  have hW := fun w => written_any (N + 1) k (by omega) hk w
  rw [show ((N + 1 : Nat) : Int) = (N : Int) + 1 by omega] at hW
  have hwl : (ba (wrS (N + 1) k)).size ≤ 20 := by
    have h1 := dec_len (N + 1) 17 (by omega) (by omega)
    show (wrS (N + 1) k).length ≤ 20
    rw [wr_len]
    omega
  by_cases h0 : 0 < (ba (lastS (lst p))).size
  · obtain ⟨x1, x2, x3, x4⟩ := str_no h0
    have hne : (lastS (lst p)).isEmpty = false := by
      cases h : lastS (lst p) with
      | nil => rw [h] at h0; exact absurd h0 (by decide)
      | cons a b => rfl
    rw [hne] at hANS
    generalize ba (lastS (lst p)) = LA at *
    have hS : ba (preS (lst p)) ++ ba (wrS (N + 1) k) = ba (preS (lst p) ++ wrS (N + 1) k) := by apply ByteArray.ext; simp [ba]
    have add1 : ∀ w, (Op.stringOp .add (ba (preS (lst p))) (ba (wrS (N + 1) k))).run Tryz.prog w = .ok (.string (ba (preS (lst p) ++ wrS (N + 1) k))) w := fun w => by
      rw [run_string_add_sum (w := w) _ _ (by omega), hS]
    have hw1 : IntKind.i64.wrap ((N : Int) + 1) = (N : Int) + 1 := IntWalk.i64_in _ (by omega)
    obtain ⟨S, hSS⟩ : ∃ S, ba (preS (lst p) ++ wrS (N + 1) k) = S := ⟨_, rfl⟩
    have hA2 : Hid (lst c = lst S → ANS = true) := hid (fun h => by
      rw [← hANS]
      rw [← hSS] at h
      simp
      exact h)
    have hA3 : Hid (¬ lst c = lst S → ANS = false) := hid (fun h => by
      rw [← hANS]
      rw [← hSS] at h
      simp
      exact h)
    rw [hSS] at add1
    generalize ba (preS (lst p)) = FR at *
    generalize ba (wrS (N + 1) k) = WR at *
    have CT := hid cT
    have CN := hid cN
    have CW := hid hW
    clear cT cN hW hS hSS hANS hdg h16l h16p hN hne hsz hfz
    rcases str_eq (a := c) (b := S) with ⟨he, t1, t2⟩ | ⟨he, t1, t2⟩
    · have hr := hA2.out he
      subst hr
      clear he hA2 hA3
      go_enter Tryz.func39, Tryz.ntmps39
      go_wp2_with fail
      refine (CT.out _).mono ?_
      rintro e w1 ⟨rfl, q, rfl⟩
      have HB1 : Hid (Below w.heap.size w (w.drewN q)) := hid (below_drewN (Below.refl _ _) q)
      go_wp2_with fail
      refine (CN.out _).mono ?_
      rintro e w2 ⟨rfl, rfl⟩
      go_wp2_with fail
      refine (CW.out _).mono ?_
      rintro e w3 ⟨rfl, hb3⟩
      have HB3 := hid (HB1.out.trans (hb3.mono HB1.out.size))
      clear hb3
      go_wp2
      go_ret
      exact ⟨rfl, HB3.out⟩
    · have hr := hA3.out he
      subst hr
      clear he hA2 hA3
      go_enter Tryz.func39, Tryz.ntmps39
      go_wp2_with fail
      refine (CT.out _).mono ?_
      rintro e w1 ⟨rfl, q, rfl⟩
      have HB1 : Hid (Below w.heap.size w (w.drewN q)) := hid (below_drewN (Below.refl _ _) q)
      go_wp2_with fail
      refine (CN.out _).mono ?_
      rintro e w2 ⟨rfl, rfl⟩
      go_wp2_with fail
      refine (CW.out _).mono ?_
      rintro e w3 ⟨rfl, hb3⟩
      have HB3 := hid (HB1.out.trans (hb3.mono HB1.out.size))
      clear hb3
      go_wp2
      go_ret
      exact ⟨rfl, HB3.out⟩
  · obtain ⟨x1, x2, x3, x4⟩ := str_yes h0
    have hne : (lastS (lst p)).isEmpty = true := by
      cases h : lastS (lst p) with
      | nil => rfl
      | cons a b => rw [h] at h0; exact absurd (Nat.succ_pos _) h0
    have hr : ANS = false := by rw [← hANS, hne]; rfl
    subst hr
    generalize ba (lastS (lst p)) = LA at *
    generalize ba (preS (lst p)) = FR at *
    have CT := hid cT
    clear cT cN hW hANS hdg h16l h16p hN hne hsz hfz
    go_enter Tryz.func39, Tryz.ntmps39
    go_wp2_with fail
    refine (CT.out _).mono ?_
    rintro e w1 ⟨rfl, q, rfl⟩
    have HB1 : Hid (Below w.heap.size w (w.drewN q)) := hid (below_drewN (Below.refl _ _) q)
    go_wp2
    go_ret
    exact ⟨rfl, HB1.out⟩
end Go.Proofs.YteckefolakjafaaGreatDoor.S3

set_option linter.unusedVariables false
namespace Go.Proofs.YteckefolakjafaaGreatDoor.S3
open Go Go.Proofs Go.RowKit Go.Lib

theorem nth_zero (f : Str) (h : hasL f = true) : nthS f 0 = f := by
  unfold nthS numL
  rw [Nat.add_zero]
  have hne : (lastS f).length ≠ 0 := fun e => by
    have := List.eq_nil_of_length_eq_zero e
    unfold hasL at h
    rw [this] at h
    simp at h
  obtain ⟨k, hk⟩ : ∃ k, (lastS f).length = k + 1 := ⟨(lastS f).length - 1, by omega⟩
  rw [wr_self k _ hk (last_dgs f), pre_split]
theorem follows_nth (f c : Str) (d : Nat) : followsB c (nthS f d) (lastS f).length = decide (c = nthS f (d + 1)) := by
  unfold followsB
  rw [has_nth, pre_nth, num_nth]
  simp only [Bool.true_and]
  rfl
theorem follows_none (f c : Str) (k : Nat) (h : hasL f = false) : followsB c f k = false := by
  unfold followsB
  rw [h]
  rfl
/-- Between two rounds of the inner loop: the run begins with f, i of its codes are passed, the last of them is p, r is the rest. -/
structure RunAt (f : Str) (r0 : List Str) (i : Nat) (p : Str) (r : List Str) : Prop where
  one : 1 ≤ i
  run : aheadM (f :: r0) = if hasL f = true then aheadGo f i r else 1
  prev : hasL f = true → p = nthS f (i - 1)
  no : hasL f = false → i = 1 ∧ p = f
theorem RunAt.start (f : Str) (r : List Str) : RunAt f r 1 f r :=
  ⟨Nat.le_refl _, rfl, fun h => (nth_zero f h).symm, fun _ => ⟨rfl, rfl⟩⟩
theorem RunAt.on {f p c : Str} {r0 r : List Str} {i : Nat} (h : RunAt f r0 i p (c :: r)) (hf : followsB c p (lastS f).length = true) : RunAt f r0 (i + 1) c r := by
  cases hh : hasL f with
  | false =>
    obtain ⟨_, rfl⟩ := h.no hh
    rw [follows_none _ _ _ hh] at hf
    cases hf
  | true =>
    have h1 := h.one
    rw [h.prev hh, follows_nth, show i - 1 + 1 = i by omega] at hf
    have hc : c = nthS f i := by simpa using hf
    refine ⟨by omega, ?_, fun _ => by rw [Nat.add_sub_cancel]; exact hc, fun e => by rw [hh] at e; cases e⟩
    rw [h.run, if_pos hh, if_pos hh]
    exact if_pos hc
theorem RunAt.off {f p c : Str} {r0 r : List Str} {i : Nat} (h : RunAt f r0 i p (c :: r)) (hf : followsB c p (lastS f).length = false) : aheadM (f :: r0) = i := by
  cases hh : hasL f with
  | false =>
    rw [h.run, if_neg (by rw [hh]; simp)]
    exact (h.no hh).1.symm
  | true =>
    have h1 := h.one
    rw [h.prev hh, follows_nth, show i - 1 + 1 = i by omega] at hf
    have hc : ¬ c = nthS f i := by simpa using hf
    rw [h.run, if_pos hh]
    exact if_neg hc
theorem RunAt.end_ {f p : Str} {r0 : List Str} {i : Nat} (h : RunAt f r0 i p []) : aheadM (f :: r0) = i := by
  cases hh : hasL f with
  | false =>
    rw [h.run, if_neg (by rw [hh]; simp)]
    exact (h.no hh).1.symm
  | true =>
    rw [h.run, if_pos hh]
    rfl
theorem semi_snoc : ∀ (ps : List Str) (p : Str), semi (ps ++ [p]) = if ps = [] then p else semi ps ++ 59 :: p
  | [], p => rfl
  | [q], p => rfl
  | q :: x :: r, p => by
    have ih := semi_snoc (x :: r) p
    rw [if_neg (by simp)] at ih ⊢
    show q ++ 59 :: semi (x :: (r ++ [p])) = (q ++ 59 :: semi (x :: r)) ++ 59 :: p
    rw [show x :: (r ++ [p]) = x :: r ++ [p] from rfl, ih]
    simp
end Go.Proofs.YteckefolakjafaaGreatDoor.S3

