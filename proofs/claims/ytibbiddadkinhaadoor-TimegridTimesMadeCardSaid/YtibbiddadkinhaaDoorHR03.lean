/-
  The program's Format. Conditions: the table of names holds what its text lays.
-/
import Derived.Test.YtibbiddadkinhaaDoorHT01
import Derived.Test.YtibbiddadkinhaaDoorHT02
import Derived.Test.YtibbiddadkinhaaDoorHT03
import Derived.Test.YtibbiddadkinhaaDoorHT04
import Derived.Test.YtibbiddadkinhaaDoorHT05
import Derived.Test.YtibbiddadkinhaaDoorHT06
import Derived.Test.YtibbiddadkinhaaDoorHT07
import Derived.Test.YtibbiddadkinhaaDoorHT08
import Derived.Test.YtibbiddadkinhaaDoorHT09
import Derived.Test.YtibbiddadkinhaaDoorHT10
import Derived.Test.YtibbiddadkinhaaDoorHR01
import Derived.Test.YtibbiddadkinhaaDoorHR02
import Derived.Test.YtibbiddadkinhaaDoorProg
import Derived.WalkKit
import Derived.WalkSpells
import Derived.WalkLawsBesides
import Derived.Lib.Hide
import Derived.Deep.QuietTactic
import Derived.BigQuiet
import Derived.Laws.Rows
import Derived.OwnWalk
import Derived.Lib.BufferWrite
import Derived.Lib.UnsafeStr
import Derived.Laws.IdiomStrings
import Derived.Laws.BytesArg
import Derived.Laws.BytesString
import Derived.Laws.OwnMore
import Derived.Lib.IndexLaws
import Derived.Lib.ItoaNum
import Derived.Lib.Atoi
import Derived.Deep.RegionLaw
import Derived.Deep.RegionHeld3
import Derived.Handy
import Derived.Laws.BitsAllLaws
import Derived.Laws.BitsLemmas
import Derived.Deep.MidRow
import Derived.Shelf.Strings.Builder1
import Derived.Shelf.Strings.Builder2
import Derived.Shelf.Strings.OnBuilder
import Derived.Shelf.Strings.BuilderF
import Derived.Shelf.Strings.BuilderK
import Derived.Shelf.Strings.Builder2Cap
import Derived.Shelf.Strconv.Atoi
import Derived.Shelf.Strconv.Itoa0
import Derived.Shelf.Strconv.Itoa1
import Derived.Shelf.LaysM
import Derived.Shelf.Strconv.Itoa2
import Derived.Shelf.Strconv.Itoa3
import Derived.Shelf.Strconv.AtoiErrFast
import Derived.Shelf.Strconv.ParseIntEmpty
import Derived.Shelf.Strconv.AtoiFail
import Derived.Shelf.Strconv.Clone
import Derived.Shelf.Strconv.SyntaxError
import Derived.Shelf.LaysC
import Derived.Shelf.Strconv.ToError
import Derived.Shelf.Strconv.AtoiErr
import Derived.Shelf.Strings.Search1
import Derived.Shelf.Strings.Search2
import Derived.Shelf.Strings.Search3
import Derived.Shelf.Strings.Cut
import Derived.Shelf.Strings.Shaped
import Derived.Shelf.Strings.Prefix
import Derived.Shelf.Unicode.DecodeSlow
import Derived.Shelf.Strings.BuilderCap
import Derived.Lib.AtoiErrMem
set_option linter.unusedVariables false
namespace Go.Proofs.YtibbiddadkinhaaDoor
open Go Go.Proofs Go.RowKit Go.Lib

/-- append to a row of the call's own, as one step of a region that draws its order. -/
theorem step_append_own {P : Program} {ops : Array Oper} {o : Oper} {a : Act} {w : World} {K : Act → World → Prop} {Q : Exit → Act → World → Prop} {E : Prop}
    (hg : o.guard = none) (s x : Operand) (t : TypeId) (hop : o.op = Op.call { callee := Callee.builtin Builtin.append, args := #[s, x], argTypes := #[t, t] })
    (B : Nat) (e : TypeId) (i : TypeInfo) (z : Value) (size bytes : Nat) (h1 : P.underlying t = some (.slice e)) (h2 : P.info? e = some i) (h3 : i.zero = some z) (h4 : i.size = size) (h5 : i.bytes = bytes) (h6 : z.cells.size = size) (h7 : 0 < size)
    (v : Value) (n : Nat) (xs : List Value) (hs : a.eval s = v) (hown : w.ownsRow B e size v n xs)
    (ad : Addr) (m c : Nat) (news : List Value) (hx : a.eval x = .slice (some ad) m c) (hn : news.length = m * size) (hc : ∀ j u, news[j]? = some u → w.cell? (ad.add j) = some u) (h1c : ∀ u ∈ news, u.oneCell' = true)
    (b1 : n + m ≤ maxLen) (b2 : (n + m) * bytes ≤ 140737488355328) (hB : B ≤ w.heap.size)
    (hK : ∀ v' w', w'.ownsRow B e size v' (n + m) (xs ++ news) → w.grownBy w' v.ownBlock → K (a.put o.dst v') w') :
    if Region.wanted o (yielded ops a.tmps) = true then Oper.wp P o a w K Q else E := by
  have hw : Region.wanted o (yielded ops a.tmps) = true := by simp [Region.wanted, hg]
  rw [if_pos hw]
  obtain ⟨v', w', hrun, r1, r2, _⟩ := run_append_own (P := P) w B t o.type e i z size bytes h1 h2 h3 h4 h5 h6 h7 v n xs hown ad m c news hn hc h1c b1 b2 hB
  unfold Oper.wp
  simp [execOp, hop, resolve, invoke, builtin, hs, hx, hrun, Result.andThen]
  exact hK v' w' r1 r2
/-- The list from a place on. -/
theorem IntsIn.from {w : World} {B b off : Nat} {l : List Nat} (h : IntsIn w B (some ⟨b, off, none⟩) (castL l)) (k : Nat) (A : Option Addr) (hA : k < l.length → A = some ⟨b, off + k, none⟩) : IntsIn w B A (castL (l.drop k)) := by
  rcases Nat.lt_or_ge k l.length with hk | hk
  · rcases h with h | ⟨b', off', he, hB, hc⟩
    · have : l = [] := by unfold castL at h; simpa using h
      rw [this] at hk
      simp at hk
    · injection he with he
      injection he with h1 h2
      subst h1 h2
      refine .inr ⟨b, off + k, hA hk, hB, fun j v hv => ?_⟩
      rw [Nat.add_assoc]
      refine hc (k + j) v ?_
      unfold castL at hv ⊢
      rw [List.getElem?_map, List.getElem?_drop] at hv
      rw [List.getElem?_map]
      exact hv
  · left
    rw [List.drop_eq_nil_of_le hk]
    rfl
def itemsL (l : List Nat) : List Str := (runs l).map fun r => itemT r.1 r.2
theorem itemsL_cons (a : Nat) (r : List Nat) : itemsL (a :: r) = itemT a (a + cnt a r) :: itemsL (r.drop (cnt a r)) := by unfold itemsL; rw [runs_cons]; rfl
theorem StrRow.snoc {w : World} {B : Nat} {v : Value} {l : List Str} {x : Str} (h : w.ownsRow B 9 1 v (l.length + 1) (strVals l ++ [.string (ba x)])) : StrRow w B v (l ++ [x]) := by
  unfold StrRow
  rw [List.length_append, strVals_app]
  exact h

set_option maxHeartbeats 8000000 in
set_option maxRecDepth 100000 in
theorem format_any (S N : Int) (w : World) (hE : Names w) : Calls Tryd.prog 42 #[.int .i64 S, .int .i64 N] w (FormOut (formM S N) w) := by
  have cV := valid_any S N
  cases hv : validM S N with
  | false =>
    have : formM S N = ([], 1) := by unfold formM; rw [if_neg (by rw [hv]; simp)]
    rw [this]
    rw [hv] at cV
    clear hv this
    go_enter Tryd.func42, Tryd.ntmps42
    go_wp2_with fail
    refine (cV _).mono ?_
    rintro e w' ⟨rfl, q, rfl⟩
    go_wp2
    go_ret2
    exact ⟨rfl, Go.below_drewN (Below.refl _ _) q⟩
  | true =>
    obtain ⟨s, n, rfl, rfl, hn1, hn2, hs1, hs2⟩ := valid_nat hv
    rw [formM_yes hv]
    rw [hv] at cV
    obtain ⟨R, hR⟩ : ∃ R, formN s n = R := ⟨_, rfl⟩
    rw [hR]
    have HR := hid hR
    have HE := hid hE
    have cO := hid (fun w h => nameOf_any s n hn1 hn2 w h)
    have hss : s < 1048576 := Nat.lt_of_lt_of_le hs2 (pow_le (show n ≤ 20 by omega))
    clear hR hE hv
    go_enter Tryd.func42, Tryd.ntmps42
    go_wp2_with fail
    refine (cV _).mono ?_
    rintro e w1 ⟨rfl, q, hw1⟩
    have HB1 : Hid (Below w.heap.size w w1) := hid (by rw [hw1]; exact Go.below_drewN (Below.refl _ _) q)
    have HE1 : Hid (Names w1) := hid (by
      intro k v hk
      have := HE.out k v hk
      rw [hw1]
      exact this)
    clear hw1 cV
    cases hnk : nameK s n with
    | some k =>
      have c1 := cO.out w1 HE1.out
      have e1 : nameOfM s n = (wordS k, true) := by unfold nameOfM; rw [hnk]
      rw [e1] at c1
      obtain rfl : R = wordS k := by rw [← HR.out]; unfold formN; rw [hnk]
      have C1 := hid c1
      clear c1 e1 hnk HR cO
      go_wp2_with fail
      refine C1.out.mono ?_
      rintro e w2 ⟨rfl, hb2⟩
      have HB2 := hid (HB1.out.trans (hb2.mono HB1.out.size))
      clear hb2
      go_wp2
      go_ret2
      exact ⟨rfl, HB2.out⟩
    | none =>
      have c1 := cO.out w1 HE1.out
      have e1 : nameOfM s n = ([], false) := by unfold nameOfM; rw [hnk]
      rw [e1] at c1
      have HRT : Hid (joinC (itemsL (weeksP s 20)) = R) := hid (by rw [← HR.out]; unfold formN; rw [hnk]; rfl)
      have C1 := hid c1
      have hM : weeksM (s : Int) = castL (weeksP s 20) := by
        unfold weeksM setOk
        rw [if_pos (decide_eq_true ⟨by omega, by omega⟩), Int.toNat_natCast]
      have cK := hid (fun w => weeks_any (s : Int) w)
      have cK' := cK.out
      rw [hM] at cK'
      have CK := hid cK'
      have HL20 : Hid ((weeksP s 20).length ≤ 20 ∧ ∀ x ∈ weeksP s 20, x ≤ 20) := hid ⟨weeksP_len s 20, fun x hx => ((mem_weeksP s 20 x).1 hx).2.1⟩
      clear c1 e1 hnk HR cO hM cK cK'
      go_wp2_with fail
      refine C1.out.mono ?_
      rintro e w2 ⟨rfl, hb2⟩
      have HB2 := hid (HB1.out.trans (hb2.mono HB1.out.size))
      clear hb2 C1
      go_wp2_with fail
      refine (CK.out _).mono ?_
      rintro e w3 ⟨⟨v, rfl, hrow⟩, hb3⟩
      have HB3 := hid (HB2.out.trans (hb3.mono HB2.out.size))
      obtain ⟨A, c, rfl, hc1, hc2, hin⟩ := hrow.intsIn
      obtain ⟨WL, hWL⟩ : ∃ WL, weeksP s 20 = WL := ⟨_, rfl⟩
      rw [hWL] at hin hc1 HL20 HRT ⊢
      rw [castL_len] at hc1
      rw [castL_len]
      have HIN := hid hin
      clear hb3 hrow hin hWL CK
      obtain ⟨i9, hi9, hz9, hsi9, hby9⟩ := info_parts infoStr
      go_wp2
      go_loopw [8, 9] (fun v lv wr => ∃ (L : List Nat) (done : List Str) (A : Option Addr) (c : Nat), lv = .slice A L.length c ∧ L.length ≤ c ∧ c ≤ 9223372036854775807 ∧ StrRow wr w3.heap.size v done ∧ Hid (IntsIn wr w3.heap.size A (castL L)) ∧ Hid (itemsL WL = done ++ itemsL L) ∧
        (L.length + done.length ≤ 20) ∧ Hid (∀ x ∈ L, x ≤ 20) ∧ Hid (Below w3.heap.size w3 wr)) (fun _ lv _ => match lv with | .slice _ k _ => k | _ => 0)
      case atStart => exact ⟨WL, [], A, c, rfl, hc1, hc2, World.ownsRow_nil _ _ _ _, HIN, hid (by simp), by have := HL20.out.1; simp; omega, hid HL20.out.2, hid (Below.refl _ _)⟩
      case round =>
        clear HIN HL20 hc1 hc2
        obtain ⟨L, done, A, c, rfl, hc1, hc2, hrow, hin, hit, h20, hx20, hB⟩ := hrel
        cases L with
        | nil =>
          obtain rfl : joinC done = R := by
            rw [← HRT.out, hit.out]
            unfold itemsL
            rw [runs_nil]
            simp
          have hx5 : ∀ x ∈ done, x.length ≤ 5 := fun x hx => by
            have hm : x ∈ itemsL WL := by rw [hit.out]; exact List.mem_append_left _ hx
            unfold itemsL at hm
            obtain ⟨r, _, rfl⟩ := List.mem_map.1 hm
            exact itemT_len _ _
          have hBw : Hid (Below w.heap.size w wr) := hid (HB3.out.trans (hB.out.mono HB3.out.size))
          have HROW := hid hrow
          clear hrow hit HRT hin hB hx20
          cases done with
          | nil =>
            obtain ⟨AI, cI, hvI⟩ := row_slice HROW.out
            subst hvI
            have cJ := Tryd.strings_Join_none AI cI ⟨#[44]⟩
            go_wp2_with fail
            refine (cJ _).mono ?_
            rintro e w6 ⟨rfl, rfl⟩
            go_wp2
            go_ret2
            exact ⟨rfl, hBw.out⟩
          | cons y ys =>
            obtain ⟨AI, cI, hvI, hI1, hI2, hI3⟩ := HROW.out.strsIn
            subst hvI
            rcases hI3 with hI3 | ⟨bk, o, rfl, hbk, hcells⟩
            · simp at hI3
            · have hxl : (List.map ba (y :: ys)).length = (y :: ys).length := by simp
              have hmm : (List.map ba (y :: ys)).map (fun b => b.data.toList) = y :: ys := by
                rw [List.map_map]
                exact List.map_id _
              have hjl : (joinC (y :: ys)).length ≤ 140737488355328 := by
                have := joinC_len (y :: ys) hx5
                omega
              have cJ := Tryd.strings_Join bk o cI (List.map ba (y :: ys)) ⟨#[44]⟩ wr (fun j x hx => by
                rw [List.getElem?_map] at hx
                obtain ⟨z, hz, rfl⟩ := Option.map_eq_some_iff.1 hx
                exact hcells j z hz) hbk.2 (by rw [hxl]; omega) (by rw [hxl]; exact hI1) (by rw [hmm]; show (Lib.join (y :: ys) [44]).length ≤ _; rw [joinC_lib]; exact hjl)
              rw [hmm, hxl, show Lib.join (y :: ys) (⟨#[44]⟩ : ByteArray).data.toList = joinC (y :: ys) from joinC_lib _] at cJ
              rw [show (⟨(joinC (y :: ys)).toArray⟩ : ByteArray) = ba (joinC (y :: ys)) from rfl] at cJ
              obtain ⟨J, hJ⟩ : ∃ J, joinC (y :: ys) = J := ⟨_, rfl⟩
              rw [hJ] at cJ ⊢
              have CJ := hid cJ
              have HJ := hid hJ
              clear hx5 cJ hJ hjl hxl hmm hcells hbk HROW
              go_wp2_with fail
              refine CJ.out.mono ?_
              rintro e w6 ⟨rfl, hb6⟩
              have HB6 := hid (hBw.out.trans (hb6.mono hBw.out.size))
              clear hb6
              go_wp2
              go_ret2
              refine ⟨?_, HB6.out⟩
              show _ = Ending.returned (.tuple #[.string (ba (joinC (y :: ys))), .int .i64 0])
              rw [HJ.out]
              rfl
        | cons a r =>
          have ha20 := hx20.out a (by simp)
          have hle := cnt_le r a
          have cR := runAhead_any a r A c w3.heap.size (by simp at h20; omega) (by omega) wr hin.out
          obtain ⟨b, off, rfl, hcell⟩ := hin.out.cell (by simp)
          have hq : (a :: r)[cnt a r]? = some (a + cnt a r) := by
            rcases Nat.eq_zero_or_pos (cnt a r) with h0 | h0
            · rw [h0]; rfl
            · obtain ⟨j, hj⟩ : ∃ j, cnt a r = j + 1 := ⟨cnt a r - 1, by omega⟩
              rw [hj, List.getElem?_cons_succ, cnt_get r a j (by omega)]
              congr 1
              omega
          have c0 := hcell 0 a rfl
          rw [Nat.add_zero] at c0
          have c1 := hcell _ _ hq
          have hlast : a + cnt a r ≤ 20 := hx20.out _ (List.mem_of_getElem? hq)
          have hitc := itemsL_cons a r
          have hfrom := fun A' h => IntsIn.from hin.out (cnt a r + 1) A' h
          rw [List.drop_succ_cons] at hfrom
          have hx20' : ∀ x ∈ r.drop (cnt a r), x ≤ 20 := fun x hx => hx20.out x (List.mem_cons_of_mem _ (List.mem_of_mem_drop hx))
          have hdl : (r.drop (cnt a r)).length = r.length - cnt a r := List.length_drop
          obtain ⟨Q, hQ⟩ : ∃ Q, cnt a r = Q := ⟨_, rfl⟩
          rw [hQ] at cR c1 hlast hitc hfrom hx20' hdl hle
          have hit2 : itemsL WL = (done ++ [itemT a (a + Q)]) ++ itemsL (r.drop Q) := by rw [hit.out, hitc]; simp
          have cW := writeItem_any a (a + Q) (by omega) (by omega)
          obtain ⟨X, hX⟩ : ∃ X, itemT a (a + Q) = X := ⟨_, rfl⟩
          rw [hX] at cW hit2
          rw [show ((a + Q : Nat) : Int) = (a : Int) + (Q : Int) by omega] at cW c1
          have HIT := hid hit2
          have HFROM := hid hfrom
          have HX20 := hid hx20'
          have HCR := hid cR
          have HCW := hid cW
          have HC0 := hid c0
          have HC1 := hid c1
          have HDL := hid hdl
          have HROW := hid hrow
          rw [List.length_cons] at hc1 h20
          clear hQ cR hq c0 c1 hitc hfrom hx20' hdl hit2 cW hX hcell hin hit hx20 hrow
          have hpos : (0 : Int) < (r.length : Int) + 1 := by omega
          go_wp2_with fail
          refine HCR.out.mono ?_
          rintro e w5 ⟨rfl, q5, hw5⟩
          have c0 : w5.cell? ⟨b, off, none⟩ = some (.int .i64 (a : Int)) := by rw [hw5]; exact HC0.out
          have c1 : w5.cell? ⟨b, off + Q, none⟩ = some (.int .i64 ((a : Int) + (Q : Int))) := by rw [hw5]; exact HC1.out
          have HROW5 : Hid (StrRow w5 w3.heap.size _ done) := hid (by rw [hw5]; exact row_drawn HROW.out q5)
          have HFROM5 : Hid (∀ A', (Q + 1 < (a :: r).length → A' = some ⟨b, off + (Q + 1), none⟩) → IntsIn w5 w3.heap.size A' (castL (r.drop Q))) := hid (fun A' h => by rw [hw5]; exact (HFROM.out A' h).drawn q5)
          have HB5 : Hid (Below w3.heap.size w3 w5) := hid (by rw [hw5]; exact Go.below_drewN hB.out q5)
          clear hw5 HCR HC0 HC1 HROW HFROM hB
          obtain ⟨AI, cI, hvI⟩ := row_slice HROW5.out
          subst hvI
          have e1 : IntKind.i64.wrap ((Q : Int) + 1 - 1) = (Q : Int) := by rw [Int.add_sub_cancel]; exact IntWalk.i64_in _ (by omega)
          have e2 : IntKind.i64.wrap (Q : Int) = (Q : Int) := IntWalk.i64_in _ (by omega)
          have hQr : (Q : Int) < (r.length : Int) + 1 := by omega
          have HM : Hid (done.length + 1 ≤ maxLen) := by unfold maxLen; exact hid (by omega)
          have HM2 : Hid ((done.length + 1) * 16 ≤ 140737488355328) := hid (by omega)
          have hQr2 : (Q : Int) + 1 ≤ (r.length : Int) + 1 := by omega
          have hcc : (r.length : Int) + 1 ≤ (c : Int) := by omega
          have hwq : IntKind.i64.wrap ((Q : Int) + 1) = (Q : Int) + 1 := IntWalk.i64_in _ (by omega)
          go_wp2_with fail
          go_region_law (first
            | (go_simp; go_at_call 41; refine (HCW.out _).mono ?_; rintro e w' ⟨rfl, rfl⟩)
            | (refine step_append_own ?_ (.tmp 30) (.tmp 40) 73 ?_ w3.heap.size 9 i9 (.string ⟨#[]⟩) 1 16 Tryd.underlying73 hi9 hz9 hsi9 hby9 ?_ ?_ (.slice AI done.length cI) done.length (strVals done) ?_ ?_ ⟨w5.heap.size, 0, none⟩ 1 1 [.string (ba X)] ?_ ?_ ?_ ?_ HM.out HM2.out ?_ ?_
               · rfl
               · rfl
               · rfl
               · decide
               · simp [Act.eval]
               · exact row_drawn (World.ownsRow.alloc HROW5.out _) 1
               · simp [Act.eval]
               · rfl
               · exact one_new w5 _ _
               · exact one_str _
               · exact Nat.le_trans HB5.out.size (by simp)
               intro v' w6 hown hgrow
               have hb6 : Below w3.heap.size ((w5.alloc (.cells #[.string (ba X)] 9)).drew) w6 := (Below.refl _ _).grown hgrow (Nat.le_trans HB5.out.size (by simp)) (fun k hk => (World.ownsRow.lt HROW5.out k hk).1)
               have hb5 : Below w3.heap.size w5 ((w5.alloc (.cells #[.string (ba X)] 9)).drew) := ((Below.refl _ w5).alloc HB5.out.size _).drew
               have HB6 := hid ((HB5.out.trans hb5).trans hb6)
               have HROW6 := hid (StrRow.snoc hown)
               have HIN6 : Hid (∀ A', (Q + 1 < (a :: r).length → A' = some ⟨b, off + (Q + 1), none⟩) → IntsIn w6 w3.heap.size A' (castL (r.drop Q))) := hid (fun A' h => ((HFROM5.out A' h).below hb5).below hb6)
               clear hown hgrow hb6 hb5))
          all_goals
            go_wp2
            go_roundw
            case rel =>
              refine ⟨r.drop Q, done ++ [X], _, c - (Q + 1), by rw [HDL.out], by rw [HDL.out]; omega, by omega, HROW6.out, hid (HIN6.out _ (fun h => if_neg ?_)), HIT, ?_, HX20, HB6⟩
              · rw [List.length_cons] at h
                omega
              · rw [HDL.out, List.length_append, List.length_singleton]
                omega
            case measure => simp; omega
end Go.Proofs.YtibbiddadkinhaaDoor

