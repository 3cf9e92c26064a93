/-
  The travel table of a network: table of travel. Conditions: the network's rows are the call's own.
-/
import Derived.Test.YtocmbifljkcmeaaDoorTN01
import Derived.Test.YtocmbifljkcmeaaDoorTN02
import Derived.Test.YtocmbifljkcmeaaDoorTN03
import Derived.Test.YtocmbifljkcmeaaDoorTN04
import Derived.Test.YtocmbifljkcmeaaDoorTN05
import Derived.Test.YtocmbifljkcmeaaDoorTN06
import Derived.Test.YtocmbifljkcmeaaDoorTN07
import Derived.Test.YtocmbifljkcmeaaDoorTN08
import Derived.Test.YtocmbifljkcmeaaDoorProg
import Derived.WalkKit
import Derived.WalkSpells
import Derived.WalkLawsBesides
import Derived.Lib.Hide
import Derived.Deep.QuietTactic
import Derived.BigQuiet
import Derived.Laws.Rows
import Derived.OwnWalk
import Derived.Lib.BufferWrite
import Derived.Lib.UnsafeStr
import Derived.Laws.IdiomStrings
import Derived.Laws.BytesArg
import Derived.Laws.BytesString
import Derived.Laws.OwnMore
import Derived.Lib.IndexLaws
import Derived.Lib.ItoaNum
import Derived.Lib.Atoi
import Derived.Lib.Bytealg
import Derived.Handy
import Derived.Laws.ResultCell
import Derived.RegionTactic
import Derived.Deep.DeepCutAuto
import Derived.Deep.CutBlock
import Derived.Deep.RegionHeld3
import Derived.Deep.RegionLaw
import Derived.Deep.RegionWith
import Derived.Deep.AppendLies
import Derived.Maps.AppendAt
import Derived.StillTailTactics
import Derived.Shelf.Abstract
import Derived.Lib.SliceRun
import Derived.RangeFuncBox
import Derived.Lib.SlTrimSet
import Derived.Shelf.Strconv.Atoi
import Derived.Shelf.Strconv.Itoa0
import Derived.Shelf.Strconv.Itoa1
import Derived.Shelf.LaysM
import Derived.Shelf.Strconv.Itoa2
import Derived.Shelf.Strconv.Itoa3
import Derived.Shelf.Strconv.AtoiErrFast
import Derived.Shelf.Strconv.ParseIntEmpty
import Derived.Shelf.Strconv.AtoiFail
import Derived.Shelf.Strconv.Clone
import Derived.Shelf.Strconv.SyntaxError
import Derived.Shelf.LaysC
import Derived.Shelf.Strconv.ToError
import Derived.Shelf.Strconv.AtoiErr
import Derived.Shelf.Bits.Mul64
import Derived.Shelf.Slices.Turned
import Derived.Laws.CopyOwn
import Derived.Lib.AtoiErrMem
import Derived.ArgAppend
import Derived.Deep.DeepAppendRoom
import Derived.Deep.RegionLawGrows
set_option linter.unusedVariables false
namespace Go.Proofs.YtocmbifljkcmeaaDoor
open Go Go.Proofs Go.RowKit Go.Lib

theorem TB.low {w : World} {B B' m n : Nat} {v : Value} {rb rc : Nat → Nat} {F : Fun2} (h : TB w B v m n rb rc F) (hB : B' ≤ B) : TB w B' v m n rb rc F := by
  refine ⟨⟨h.own.1, ?_⟩, h.ent, h.fr, h.inj, h.ne, fun i hi => Nat.le_trans hB (h.lo i hi), h.hi, h.cap⟩
  rcases h.own.2 with h2 | ⟨g, cap, cur, e, hb, rest⟩
  · exact .inl h2
  · exact .inr ⟨g, cap, cur, e, Nat.le_trans hB hb, rest⟩
/-- What table leaves behind. -/
def TabOut8 (N : NetD) (n1 : Value) (w : World) (e : Ending) (w' : World) : Prop :=
  (∃ S d, e = .returned (.agg #[n1, .slice S N.2.length d]) ∧ N.2.length ≤ d ∧ d ≤ 9223372036854775807 ∧ TabIn w' (fun b => w.heap.size ≤ b ∧ b < w'.heap.size) S (tabF (tabW N) N.2.length)) ∧ Below w.heap.size w w'
/-- While the table is made: its box in block P. -/
structure TK (n : Nat) (n1 : Value) (w : World) (P : Nat) (v : Value) (rb rc : Nat → Nat) (F : Fun2) (wx : World) : Prop where
  box : Box2 wx P 25 n1 v
  res : Box2 wx w.heap.size 25 (.slice none 0 0) (.slice none 0 0)
  tb : TB wx (w.heap.size + 1) v n n rb rc F
  ne : ∀ i, i < n → rb i ≠ P
  vne : v.ownBlock ≠ some P
  p : w.heap.size < P
  b : Below w.heap.size w wx
/-- The rows are made first. -/
theorem TK.first {w w1 w2 : World} {n : Nat} {n1 v : Value} {rb rc : Nat → Nat} {F : Fun2} (hr : Box2 w1 w.heap.size 25 (.slice none 0 0) (.slice none 0 0)) (hb : Below w.heap.size w w1) (hs : w1.heap.size = w.heap.size + 1) (h2 : Below w1.heap.size w1.drew w2) (ht : TB w2 w1.heap.size v n n rb rc F) :
    TK n n1 w w2.heap.size v rb rc F (w2.alloc (.cells #[n1, v] 25)) := by
  have h2' : Below w1.heap.size w1 w2 := ((Below.refl _ w1).drew).trans h2
  have hb3 := (Below.refl w2.heap.size w2).alloc (Nat.le_refl _) (.cells #[n1, v] 25)
  have hs2 := h2'.size
  refine ⟨Box2.new w2 _ _ _, (hr.next h2').next hb3, (ht.next hb3).low (by omega), fun i hi e => ?_, fun e => ?_, by omega, (hb.trans (h2'.mono (by omega))).trans (hb3.mono (by omega))⟩
  · have := ht.hi i hi; omega
  · have := (World.ownsRow.lt ht.own _ e).2; omega
/-- The box is made first. -/
theorem TK.second {w w1 w2 : World} {n : Nat} {n1 v : Value} {rb rc : Nat → Nat} {F : Fun2} (hr : Box2 w1 w.heap.size 25 (.slice none 0 0) (.slice none 0 0)) (hb : Below w.heap.size w w1) (hs : w1.heap.size = w.heap.size + 1) (h2 : Below (w1.heap.size + 1) (w1.alloc (.cells #[.slice none 0 0, .slice none 0 0] 25)).drew w2) (ht : TB w2 (w1.heap.size + 1) v n n rb rc F) :
    TK n n1 w w1.heap.size v rb rc F ((w2.setCell ⟨w1.heap.size, 0, none⟩ n1).setCell ⟨w1.heap.size, 1, none⟩ v) := by
  have hb3 := (Below.refl w1.heap.size w1).alloc (Nat.le_refl _) (.cells #[.slice none 0 0, .slice none 0 0] 25)
  have hx := Box2.new w1 25 (.slice none 0 0) (.slice none 0 0)
  have hs3 : (w1.alloc (.cells #[.slice none 0 0, .slice none 0 0] 25)).heap.size = w1.heap.size + 1 := by simp
  have h2' : Below (w1.heap.size + 1) (w1.alloc (.cells #[.slice none 0 0, .slice none 0 0] 25)) w2 := ((Below.refl _ _).drew).trans h2
  have hk : ∀ b, b ≠ w1.heap.size → ((w2.setCell ⟨w1.heap.size, 0, none⟩ n1).setCell ⟨w1.heap.size, 1, none⟩ v).heap[b]? = w2.heap[b]? := fun b hb' => by
    rw [heap_setCell_other _ _ _ _ (by show b ≠ w1.heap.size; omega), heap_setCell_other _ _ _ _ (by show b ≠ w1.heap.size; omega)]
  have hb4 : Below w.heap.size w w2 := (hb.trans (hb3.mono (by omega))).trans (h2'.mono (by omega))
  refine ⟨(hx.kept (h2'.block _ (by omega))).set _ _, ((hr.next hb3).kept (h2'.block _ (by omega))).kept (hk _ (by omega)), (ht.kept (fun b hb' => hk b (by omega)) (by simp)).low (by omega), fun i hi e => ?_, fun e => ?_, by omega, (hb4.setCell (p := ⟨w1.heap.size, 0, none⟩) (by show _ ≤ w1.heap.size; omega) _).setCell (p := ⟨w1.heap.size, 1, none⟩) (by show _ ≤ w1.heap.size; omega) _⟩
  · have := ht.lo i hi; omega
  · have := (World.ownsRow.lt ht.own _ e).1; omega
set_option maxHeartbeats 16000000 in
set_option maxRecDepth 100000 in
theorem table_any (M B m : Nat) (N : NetD) (n0 n1 : Value) (w : World) (hM : M < B) (hB : B ≤ w.heap.size) (h : NetIn w M B N n0 n1) (ok : NetOk N m) (hm : N.1.length ≤ 1073741824) :
    Calls Tryd.prog 39 #[.pointer (some ⟨M, 0, none⟩)] w (TabOut8 N n1 w) := by
  obtain ⟨A1, c1, rfl, hc1, hc2, hin1⟩ := h.strs.strsIn
  obtain ⟨A0, c0, rfl, hc3, hc4, hin0⟩ := h.ways.waysIn
  have hr0 := Box2.new w 25 (.slice none 0 0) (.slice none 0 0)
  have hb0 := (Below.refl w.heap.size w).alloc (Nat.le_refl _) (.cells #[.slice none 0 0, .slice none 0 0] 25)
  have hs0 : (w.alloc (.cells #[.slice none 0 0, .slice none 0 0] 25)).heap.size = w.heap.size + 1 := by simp
  have cN := fun w' => noWays_any N.2.length w' ok.b
  have hMl := h.box.lt
  obtain ⟨w1, hw1⟩ : ∃ w1, w.alloc (.cells #[.slice none 0 0, .slice none 0 0] 25) = w1 := ⟨_, rfl⟩
  rw [hw1] at hr0 hb0 hs0
  have zn := (h.box.next hb0).c1
  have zm := (h.box.next hb0).c0
  have hCM : ∀ wx, Below w1.heap.size w1 wx → wx.cell? ⟨M, 1, none⟩ = some (.slice A1 N.2.length c1) := fun wx hb => (hb.cell (p := ⟨M, 1, none⟩) (by show M < _; omega)).trans zn
  have CM := hid hCM
  have HH := hid h
  have HIN1 := hid hin1
  have HIN0 := hid hin0
  have CN := hid cN
  have HR0 := hid hr0
  have HB0 := hid hb0
  have HS0 := hid hs0
  have HOK := hid ok
  have HML := hid hMl
  clear h hin1 hin0 cN hr0 hb0 hs0 ok hMl hCM
  obtain ⟨nb, hnb⟩ : ∃ n, N.2.length = n := ⟨_, rfl⟩
  have HNB := hid hnb
  rw [hnb] at zn CM CN
  rw [hnb]
  obtain ⟨nw, hnw⟩ : ∃ n, N.1.length = n := ⟨_, rfl⟩
  rw [hnw] at zm hm
  unfold TabOut8
  have HNW := hid hnw
  clear hnb hnw
  go_enter Tryd.func39, Tryd.ntmps39
  go_upto_region 1 with fail
  (try rw [hw1])
  clear hw1
  go_cut [3] (fun u3 wx => ∃ (P : Nat) (S : Option Addr) (d : Nat) (rb rc : Nat → Nat), u3 = .pointer (some ⟨P, 0, none⟩) ∧ Hid (TK nb (.slice A1 nb c1) w P (.slice S nb d) rb rc unkF wx))
  case first =>
    have hk' : Below w1.heap.size w1 w1.drew := (Below.refl _ w1).drew
    have hk2 : Below w1.heap.size w1 (w1.alloc (.cells #[.slice none 0 0, .slice none 0 0] 25)).drew := ((Below.refl _ w1).alloc (Nat.le_refl _) _).drew
    clear zn
    go_region_held3 (fun w' => w'.cell? ⟨M, 1, none⟩ = some (.slice A1 nb c1))
      (first | with_reducible exact CM.out _ hk' | with_reducible exact CM.out _ hk2 | with_reducible exact CM.out _ (Below.refl _ _) | with_reducible exact CM.out _ ((Below.refl _ w1).alloc (Nat.le_refl _) _) | with_reducible exact CM.out _ (hk'.alloc hk'.size _) | with_reducible exact CM.out _ ((hk'.setCell (p := ⟨w1.heap.size, 0, none⟩) (Nat.le_refl _) _).setCell (p := ⟨w1.heap.size, 1, none⟩) (Nat.le_refl _) _))
      (first
        | (go_at_call 57; refine (CN.out w1.drew).mono ?_; rintro e w2 ⟨⟨v, rfl, rb, rc, hTB⟩, hb2⟩
           have hk' : Below w1.heap.size w1 w2 := hk'.trans hb2
           obtain ⟨S2, d2, rfl⟩ := hTB.slice
           have HTK := hid (TK.first (n1 := .slice A1 nb c1) HR0.out HB0.out HS0.out hb2 hTB)
           clear hTB hb2)
        | (go_at_call 57; refine (CN.out (w1.alloc (.cells #[.slice none 0 0, .slice none 0 0] 25)).drew).mono ?_; rintro e w2 ⟨⟨v, rfl, rb, rc, hTB⟩, hb2⟩
           have hk' : Below w1.heap.size w1 w2 := hk2.trans (hb2.mono (by show w1.heap.size ≤ (w1.alloc _).heap.size; simp))
           obtain ⟨S2, d2, rfl⟩ := hTB.slice
           have hss : (w1.alloc (.cells #[.slice none 0 0, .slice none 0 0] 25)).drew.heap.size = w1.heap.size + 1 := by show (w1.alloc _).heap.size = _; simp
           rw [hss] at hTB hb2
           have HTK := hid (TK.second (n1 := .slice A1 nb c1) HR0.out HB0.out HS0.out hb2 hTB)
           have hx2 := (Box2.new w1 25 (.slice none 0 0) (.slice none 0 0)).kept (hb2.block w1.heap.size (by omega))
           have z0 := hx2.c0
           have z1 := hx2.c1
           have f0 := hx2.free 0
           have f1 := hx2.free 1
           clear hTB hb2 hss hx2))
    all_goals
      go_wp2_with fail
      go_meet
      exact ⟨_, _, _, _, _, rfl, HTK⟩
  case rest =>
    obtain ⟨P, S, d, rb, rc, rfl, HTK⟩ := hcut
    clear zn zm CM CN HR0 HB0
    have zm : wc.cell? ⟨M, 0, none⟩ = some (.slice A0 nw c0) := (HTK.out.b.cell (p := ⟨M, 0, none⟩) HML.out).trans (by rw [← HNW.out]; exact HH.out.box.c0)
    by_cases hn0 : nb = 0
    · have hw0 : N.1 = [] := by
        cases hN : N.1 with
        | nil => rfl
        | cons v r =>
          have h1 := (HOK.out.a v (by rw [hN]; simp)).1
          have h2 : N.2 = [] := List.eq_nil_of_length_eq_zero (by rw [HNB.out, hn0])
          rw [h2] at h1
          simp at h1
      have hnw0 : nw = 0 := by rw [← HNW.out, hw0]; rfl
      subst hnw0
      subst hn0
      clear hw0
      obtain ⟨y0, y1⟩ := And.intro HTK.out.box.c0 HTK.out.box.c1
      obtain ⟨r0, r1⟩ := And.intro HTK.out.res.c0 HTK.out.res.c1
      have f0 := HTK.out.res.free 0
      have f1 := HTK.out.res.free 1
      go_wp2
      go_loop [5, 6, 7, 24] (fun _ _ _ iv => iv = .int .i64 0) (fun _ _ _ _ => 0)
      case atStart => rfl
      case round =>
        subst hrel
        go_wp2
        have hz := HTK.out.res.set (.slice A1 0 c1) (.slice S 0 d)
        exact bodyPost_ret (v := .agg #[.slice A1 0 c1, .slice S 0 d]) (results_c1 rfl _ _ _ ⟨w.heap.size, 0, none⟩ _ rfl (loadTrav hz.c0 hz.c1)) rfl ⟨⟨S, d, by rw [HNB.out], by rw [HNB.out]; exact Nat.zero_le _, by
          obtain ⟨_, hs⟩ := HTK.out.tb.own
          rcases hs with ⟨h, _⟩ | ⟨_, _, _, h, _, _, _, hc, _⟩
          · injection h with _ _ h; omega
          · injection h with _ _ h; unfold maxLen at hc; omega, .inl (by rw [HNB.out]; rfl)⟩, (HTK.out.b.setCell (p := ⟨w.heap.size, 0, none⟩) (Nat.le_refl _) _).setCell (p := ⟨w.heap.size, 1, none⟩) (Nat.le_refl _) _⟩
    · have hnp : 0 < nb := by omega
      obtain ⟨O, cap, hv, hcp1, hcp2, hTO⟩ := HTK.out.tb.to hnp
      injection hv with hv1 _ hv2
      subst hv1
      subst hv2
      have HTO := hid (show TO wc (w.heap.size + 1) O nb rb rc (tabK N 0) from hTO)
      have HBX := hid HTK.out.box
      have HRS := hid HTK.out.res
      have HBW := hid HTK.out.b
      have HNE := hid HTK.out.ne
      have HP := hid HTK.out.p
      have HON : Hid (O ≠ P) := hid (fun e => HTK.out.vne (by rw [← e]; rfl))
      have HCP := hid (And.intro hcp1 hcp2)
      clear HTK hTO hcp1 hcp2
      go_wp2
      go_loopw [5, 6, 7, 24] (fun _ _ _ iv wr => ∃ j : Nat, iv = .int .i64 (j : Int) ∧ j ≤ nw ∧ Hid (TO wr (w.heap.size + 1) O nb rb rc (tabK N j)) ∧ Hid (Box2 wr P 25 (.slice A1 nb c1) (.slice (some ⟨O, 0, none⟩) nb d)) ∧ Hid (Box2 wr w.heap.size 25 (.slice none 0 0) (.slice none 0 0)) ∧ Hid (Below w.heap.size w wr)) (fun _ _ _ iv _ => nw - (RowKit.intOf iv).toNat)
      case atStart => exact ⟨0, rfl, Nat.zero_le _, HTO, HBX, HRS, HBW⟩
      case round =>
        clear HTO HBX HRS HBW
        obtain ⟨j, rfl, hj, HTO, HBX, HRS, HBW⟩ := hrel
        by_cases hlt : j < nw
        · have hltz : (j : Int) < (nw : Int) := by omega
          have hjl : j < N.1.length := by rw [HNW.out]; exact hlt
          obtain ⟨ab, ao, rfl, hab, x0, x1, x2⟩ := HIN0.out.at_ hjl
          have hst := tabK_step N j hjl
          obtain ⟨ha1, ha2, hane⟩ := HOK.out.a _ (List.getElem_mem hjl)
          obtain ⟨y, hy⟩ : ∃ y, N.1[j] = y := ⟨_, rfl⟩
          rw [hy] at x0 x1 x2 hst ha1 ha2 hane
          have kc : ∀ p : Nat, wr.cell? ⟨ab, p, none⟩ = w.cell? ⟨ab, p, none⟩ := fun p => HBW.out.cell (p := ⟨ab, p, none⟩) hab.2
          rw [← kc] at x0 x1 x2
          obtain ⟨i, hi, hib⟩ := plc_in ha1
          obtain ⟨k, hk, hkb⟩ := plc_in ha2
          rw [HNB.out] at hib hkb
          have hik : i ≠ k := fun e => by
            subst e
            rcases plc_spec N.2 y.1 with ⟨h, _⟩ | ⟨j1, h1, _, g1, _⟩
            · rw [hi] at h; omega
            · rcases plc_spec N.2 y.2.1 with ⟨h, _⟩ | ⟨j2, h2, _, g2, _⟩
              · rw [hk] at h; omega
              · have e1 : j1 = i := by rw [hi] at h1; omega
                have e2 : j2 = i := by rw [hk] at h2; omega
                rw [e1] at g1
                rw [e2, g1] at g2
                injection g2 with g2
                exact hane g2
          have hset : setT N.2 (tabK N j) y = upd (upd (tabK N j) i k y.2.2) k i y.2.2 := by unfold setT; rw [hi, hk]; rfl
          rw [hset] at hst
          have cI := fun (W : World) (hb : Below w.heap.size w W) (q : Nat) => index_any A1 N.2 c1 (ba y.1) _ (W.drewN q) (HIN1.out.kept (w' := W.drewN q) (fun b hb' => by show W.heap[b]? = _; exact hb.block b hb'.2)) (by have := HOK.out.b; omega)
          have cK := fun (W : World) (hb : Below w.heap.size w W) (q : Nat) => index_any A1 N.2 c1 (ba y.2.1) _ (W.drewN q) (HIN1.out.kept (w' := W.drewN q) (fun b hb' => by show W.heap[b]? = _; exact hb.block b hb'.2)) (by have := HOK.out.b; omega)
          rw [lst_ba, hi, HNB.out] at cI
          rw [lst_ba, hk, HNB.out] at cK
          obtain ⟨X1, hX1⟩ : ∃ z, ba y.1 = z := ⟨_, rfl⟩
          obtain ⟨X2, hX2⟩ : ∃ z, ba y.2.1 = z := ⟨_, rfl⟩
          obtain ⟨n, hn⟩ : ∃ z, y.2.2 = z := ⟨_, rfl⟩
          rw [hX1] at x0 cI
          rw [hX2] at x1 cK
          rw [hn] at x2 hst
          have CI := hid cI
          have CK := hid cK
          have HST := hid hst
          have d1 : decide (nb ≤ i) = false := decide_eq_false (by omega)
          have d2 : decide (nb ≤ k) = false := decide_eq_false (by omega)
          clear cI cK kc hset hst hX1 hX2 hn hi hk ha1 ha2 hane hy
          have hbx := HBX.out
          have hb5 := (Below.refl wr.heap.size wr).alloc (Nat.le_refl _) (.cells #[.string X1, .string X2, .int .i64 n] 51)
          have hx5 := Box3.new wr 51 (.string X1) (.string X2) (.int .i64 n)
          have ht5 := HTO.out.next hb5
          have hr5 := HRS.out.next hb5
          have hp5 := HBX.out.next hb5
          have hw5 := HBW.out.trans (hb5.mono HBW.out.size)
          have htl := fun a (ha : a < nb) => HTO.out.lt a ha
          have HTL : Hid (rb i < wr.heap.size ∧ rb k < wr.heap.size) := hid ⟨htl i hib, htl k hkb⟩
          clear hb5 hbx htl HBX HRS HBW HTO
          go_wp2_with fail
          generalize wr.alloc (.cells #[.string X1, .string X2, .int .i64 n] 51) = w5 at hx5 ht5 hr5 hp5 hw5 ⊢
          have q0 := hx5.c0
          have q1 := hx5.c1
          obtain ⟨y0, y1⟩ := And.intro hp5.c0 hp5.c1
          have CI5 : Hid (∀ q, Calls Tryd.prog 35 #[.slice A1 nb c1, .string X1] (w5.drewN q) fun e w' => e = .returned (.int .i64 (i : Int)) ∧ ∃ q', w' = (w5.drewN q).drewN q') := hid (fun q => (CI.out w5 hw5 q).mono fun e w' h => ⟨h.1, 0, h.2.symm⟩)
          have CK5 : Hid (∀ q, Calls Tryd.prog 35 #[.slice A1 nb c1, .string X2] (w5.drewN q) fun e w' => e = .returned (.int .i64 (k : Int)) ∧ ∃ q', w' = (w5.drewN q).drewN q') := hid (fun q => (CK.out w5 hw5 q).mono fun e w' h => ⟨h.1, 0, h.2.symm⟩)
          have HX5 := hid hx5
          have HT5 := hid ht5
          have HR5 := hid hr5
          have HP5 := hid hp5
          have HW5 := hid hw5
          clear CI CK hx5 ht5 hr5 hp5 hw5 x0 x1 x2
          go_upto_region 5 with fail
          go_quiet ((go_at_call 35; first | with_reducible refine Calls.quiet_of (CI5.out _) | with_reducible refine Calls.quiet_of (CK5.out _)))
          have hd := below_drewN' (Below.refl w5.heap.size w5) nq
          have ht6 := HT5.out.next hd
          have hr6 := HR5.out.next hd
          have hp6 := HP5.out.next hd
          have hx6 := HX5.out.next hd
          have hw6 := HW5.out.trans (hd.mono HW5.out.size)
          obtain ⟨w6, hw6e⟩ : ∃ W, w5.drewN nq = W := ⟨_, rfl⟩
          rw [hw6e] at ht6 hr6 hp6 hx6 hw6 ⊢
          have z1 := ht6.row i hib
          have z2 := ht6.row k hkb
          have z3 := ht6.ent i hib k hkb
          have z4 := ht6.ent k hkb i hib
          have z5 := ht6.fr i hib k hkb
          have z6 := ht6.fr k hkb i hib
          have zp := hp6.c1
          have zq := hx6.c2
          have hne1 : rb i ≠ rb k := fun e => hik (ht6.inj i k hib hkb e)
          have hset1 := (ht6.set hib hkb n).set hkb hib n
          have hset2 := (ht6.set hkb hib n).set hib hkb n
          rw [HST.out.symm] at hset1
          have hcomm : upd (upd (tabK N j) k i n) i k n = upd (upd (tabK N j) i k n) k i n := by
            funext a b
            unfold upd
            by_cases h1 : a = i ∧ b = k
            · by_cases h2 : a = k ∧ b = i
              · rw [if_pos h1, if_pos h2]
              · rw [if_pos h1, if_neg h2, if_pos h1]
            · by_cases h2 : a = k ∧ b = i
              · rw [if_neg h1, if_pos h2, if_pos h2]
              · rw [if_neg h1, if_neg h2, if_neg h2, if_neg h1]
          rw [hcomm, HST.out.symm] at hset2
          have hxl : rb i ≠ wr.heap.size ∧ rb k ≠ wr.heap.size := ⟨by have := HTL.out.1; omega, by have := HTL.out.2; omega⟩
          have hrp := HNE.out i hib
          have hkp := HNE.out k hkb
          have hio := ht6.ne i hib
          have hko := ht6.ne k hkb
          have hil := ht6.lo i hib
          have hkl := ht6.lo k hkb
          obtain ⟨bi, hbi⟩ : ∃ b, rb i = b := ⟨_, rfl⟩
          obtain ⟨bk, hbk⟩ : ∃ b, rb k = b := ⟨_, rfl⟩
          rw [hbi] at z1 z3 z5 hset1 hset2 hne1 hrp hil hxl hio
          rw [hbk] at z2 z4 z6 hset1 hset2 hne1 hkp hkl hxl hko
          have hne2 : bk ≠ bi := fun e => hne1 e.symm
          have hn3 : wr.heap.size ≠ bi := fun e => hxl.1 e.symm
          have hn4 : wr.heap.size ≠ bk := fun e => hxl.2 e.symm
          have hn5 : P ≠ bi := fun e => hrp e.symm
          have hn6 : P ≠ bk := fun e => hkp e.symm
          have hn7 : O ≠ bi := fun e => hio e.symm
          have hn8 : O ≠ bk := fun e => hko e.symm
          have hfar : ∀ W : World, (W = (w6.setCell ⟨bi, k, none⟩ (.int .i64 n)).setCell ⟨bk, i, none⟩ (.int .i64 n) ∨ W = (w6.setCell ⟨bk, i, none⟩ (.int .i64 n)).setCell ⟨bi, k, none⟩ (.int .i64 n)) → TO W (w.heap.size + 1) O nb rb rc (tabK N (j + 1)) ∧ Box2 W P 25 (.slice A1 nb c1) (.slice (some ⟨O, 0, none⟩) nb d) ∧ Box2 W w.heap.size 25 (.slice none 0 0) (.slice none 0 0) ∧ Below w.heap.size w W := fun W hW => by
            rcases hW with rfl | rfl
            · exact ⟨hset1, hp6.kept (by rw [heap_setCell_other _ _ _ _ (by show P ≠ bk; exact fun e => hkp e.symm), heap_setCell_other _ _ _ _ (by show P ≠ bi; exact fun e => hrp e.symm)]), hr6.kept (by rw [heap_setCell_other _ _ _ _ (by show w.heap.size ≠ bk; omega), heap_setCell_other _ _ _ _ (by show w.heap.size ≠ bi; omega)]), (hw6.setCell (p := ⟨bi, k, none⟩) (by show _ ≤ bi; omega) _).setCell (p := ⟨bk, i, none⟩) (by show _ ≤ bk; omega) _⟩
            · exact ⟨hset2, hp6.kept (by rw [heap_setCell_other _ _ _ _ (by show P ≠ bi; exact fun e => hrp e.symm), heap_setCell_other _ _ _ _ (by show P ≠ bk; exact fun e => hkp e.symm)]), hr6.kept (by rw [heap_setCell_other _ _ _ _ (by show w.heap.size ≠ bi; omega), heap_setCell_other _ _ _ _ (by show w.heap.size ≠ bk; omega)]), (hw6.setCell (p := ⟨bk, i, none⟩) (by show _ ≤ bk; omega) _).setCell (p := ⟨bi, k, none⟩) (by show _ ≤ bi; omega) _⟩
          have HFAR := hid hfar
          clear hd ht6 hr6 hp6 hx6 hw6 hw6e hset1 hset2 hcomm hbi hbk hil hkl hfar CI5 CK5 HX5 HT5 HR5 HP5 HW5 q0 q1 y0 y1 hxl HTL hik
          go_wp2_with fail
          go_region
          have HG := hid (HFAR.out _ (.inl rfl))
          (try go_wp2)
          go_roundw
          case rel => exact ⟨j + 1, by go_num, by omega, hid (HG.out.1.next ((Below.refl _ _).drew)), hid (HG.out.2.1.next ((Below.refl _ _).drew)), hid (HG.out.2.2.1.next ((Below.refl _ _).drew)), hid HG.out.2.2.2.drew⟩
          case measure => simp [RowKit.intOf]; omega
        · have hltz : ¬ (j : Int) < (nw : Int) := by omega
          obtain rfl : j = nw := by omega
          have htw : tabK N j = tabW N := tabK_end N j (by rw [HNW.out]; exact Nat.le_refl _)
          rw [htw] at HTO
          obtain ⟨y0, y1⟩ := And.intro HBX.out.c0 HBX.out.c1
          obtain ⟨r0, r1⟩ := And.intro HRS.out.c0 HRS.out.c1
          have f0 := HRS.out.free 0
          have f1 := HRS.out.free 1
          clear htw
          go_wp2
          have hz := HRS.out.set (.slice A1 nb c1) (.slice (some ⟨O, 0, none⟩) nb d)
          refine bodyPost_ret (v := .agg #[.slice A1 nb c1, .slice (some ⟨O, 0, none⟩) nb d]) (results_c1 rfl _ _ _ ⟨w.heap.size, 0, none⟩ _ rfl (loadTrav hz.c0 hz.c1)) rfl ⟨⟨some ⟨O, 0, none⟩, d, by rw [HNB.out], by rw [HNB.out]; exact HCP.out.1, HCP.out.2, ?_⟩, (HBW.out.setCell (p := ⟨w.heap.size, 0, none⟩) (Nat.le_refl _) _).setCell (p := ⟨w.heap.size, 1, none⟩) (Nat.le_refl _) _⟩
          rw [HNB.out]
          exact (HTO.out.tabIn.kept (fun b hb => by rw [heap_setCell_other _ _ _ _ (by show b ≠ w.heap.size; omega), heap_setCell_other _ _ _ _ (by show b ≠ w.heap.size; omega)])).mono (fun b hb => ⟨by omega, by simpa using hb.2⟩)
end Go.Proofs.YtocmbifljkcmeaaDoor

