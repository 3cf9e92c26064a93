/-
  The place of a request by the specification: find. Conditions: the requests lie in memory. The first error of requests by the specification: Valid. Conditions: .. Conditions: as stated.
-/
import Derived.Test.YtlgmanbilaminaaGreatDoorMN13
import Derived.StillTailTactics
set_option linter.unusedVariables false
namespace Go.Proofs.YtlgmanbilaminaaGreatDoor.S12
open Go Go.Proofs Go.RowKit Go.Lib Go.Proofs.YtlgmanbilaminaaGreatDoor
def idxP : List (Str × Str) → Str × Str → Nat → Int
  | [], _, _ => -1
  | x :: r, c, k => if x = c then (k : Int) else idxP r c (k + 1)
theorem idxP_spec : ∀ (l : List (Str × Str)) (c : Str × Str) (k : Nat), (c ∉ l ∧ idxP l c k = -1) ∨ ∃ j, ∃ hj : j < l.length, l[j] = c ∧ (∀ m, ∀ hm : m < j, l[m]'(by omega) ≠ c) ∧ idxP l c k = (k : Int) + j
  | [], c, k => .inl ⟨by simp, rfl⟩
  | x :: r, c, k => by
    unfold idxP
    by_cases h : x = c
    · rw [if_pos h]
      exact .inr ⟨0, by simp, h, fun m hm => by omega, by simp⟩
    · rw [if_neg h]
      rcases idxP_spec r c (k + 1) with ⟨h1, h2⟩ | ⟨j, hj, h1, h2, h3⟩
      · exact .inl ⟨by simp [Ne.symm h, h1], h2⟩
      · refine .inr ⟨j + 1, by simpa using hj, by simpa using h1, fun m hm => ?_, by rw [h3]; push_cast; omega⟩
        cases m with
        | zero => simpa using h
        | succ m => simpa using h2 m (by omega)
theorem idxP_pos (l : List (Str × Str)) (c : Str × Str) : (0 ≤ idxP l c 0) ↔ c ∈ l := by
  rcases idxP_spec l c 0 with ⟨h1, h2⟩ | ⟨j, hj, h1, _, h3⟩
  · rw [h2]; constructor
    · intro h; omega
    · intro h; exact absurd h h1
  · rw [h3]; constructor
    · intro _; rw [← h1]; exact List.getElem_mem hj
    · intro _; omega
theorem idxP_lt (l : List (Str × Str)) (i : Nat) (hi : i < l.length) : (idxP l l[i] 0 < (i : Int)) ↔ l[i] ∈ l.take i := by
  rcases idxP_spec l l[i] 0 with ⟨h1, h2⟩ | ⟨j, hj, h1, h2, h3⟩
  · exact absurd (List.getElem_mem hi) h1
  · rw [h3]
    constructor
    · intro h
      have hji : j < i := by omega
      rw [← h1]
      exact List.mem_take_iff_getElem.2 ⟨j, by omega, rfl⟩
    · intro h
      obtain ⟨m, hm, he⟩ := List.mem_take_iff_getElem.1 h
      by_cases hjm : j ≤ m
      · omega
      · exact absurd he (h2 m (by omega))
theorem wishes_drop (l : List ReqD) (k : Nat) (h : k < l.length) : wishes (l.drop k) = (l[k].s, l[k].c) :: wishes (l.drop (k + 1)) := by
  rw [List.drop_eq_getElem_cons h]; rfl
theorem wishes_len (l : List ReqD) : (wishes l).length = l.length := List.length_map _
theorem wishes_take (l : List ReqD) (i : Nat) : (wishes l).take i = wishes (l.take i) := by unfold wishes; rw [List.map_take]
theorem wish_stud {l : List ReqD} {s c : Str} (h : (s, c) ∈ wishes l) : s ∈ studs l := by
  unfold wishes at h
  obtain ⟨r, hr, e⟩ := List.mem_map.1 h
  injection e with e1 e2
  exact (mem_studs l s).2 ⟨r, hr, e1⟩
set_option maxHeartbeats 4000000 in
set_option maxRecDepth 100000 in
theorem rfind_any (A : Option Addr) (l : List ReqD) (c : Nat) (s x : ByteArray) (P : Nat → Prop) (w : World) (h : ReqsIn w P A l) (hl63 : l.length ≤ 9223372036854775807) :
    Calls Tryz.prog 46 #[.slice A l.length c, .string s, .string x] w fun e w' => e = .returned (.int .i64 (idxP (wishes l) (lst s, lst x) 0)) ∧ w = w' := by
  obtain ⟨R, hR⟩ : ∃ R, idxP (wishes l) (lst s, lst x) 0 = R := ⟨_, rfl⟩
  rw [hR]
  have HR : Hid (idxP (wishes (l.drop 0)) (lst s, lst x) 0 = R) := hid hR
  have HH := hid h
  clear hR h
  go_enter Tryz.func46, Tryz.ntmps46
  go_wp2
  go_loop [7] (fun iv => ∃ k : Nat, iv = .int .i64 (k : Int) ∧ k ≤ l.length ∧ Hid (idxP (wishes (l.drop k)) (lst s, lst x) k = R)) (fun iv => l.length - (RowKit.intOf iv).toNat)
  case atStart => exact ⟨0, rfl, Nat.zero_le _, HR⟩
  case round =>
    obtain ⟨k, rfl, hk, hE⟩ := hrel
    by_cases hlt : k < l.length
    · have hltz : (k : Int) < (l.length : Int) := by omega
      have dk : decide (l.length ≤ k) = false := decide_eq_false (by omega)
      obtain ⟨fb, fo, q, rfl, hfb, hri, y0, y1, y2, y3⟩ := HH.out.at_ hlt
      have hst := hE.out
      rw [wishes_drop l k hlt] at hst
      unfold idxP at hst
      obtain ⟨Y, hY⟩ : ∃ Y, ba l[k].s = Y := ⟨_, rfl⟩
      have hYl : lst Y = l[k].s := by rw [← hY]; rfl
      rw [hY] at y0
      obtain ⟨Z, hZ⟩ : ∃ Y, ba l[k].c = Y := ⟨_, rfl⟩
      have hZl : lst Z = l[k].c := by rw [← hZ]; rfl
      rw [hZ] at y1
      have ty : Y.toList = lst Y := Lib.toList_data Y
      have ts : s.toList = lst s := Lib.toList_data s
      have tz : Z.toList = lst Z := Lib.toList_data Z
      have tx : x.toList = lst x := Lib.toList_data x
      rw [← hYl, ← hZl] at hst
      clear hri hY hYl hZ hZl y2 y3
      by_cases he : lst Y = lst s
      · have b1 : (Y.toList == s.toList) = true := by rw [ty, ts, he]; simp
        by_cases he2 : lst Z = lst x
        · rw [if_pos (by rw [he, he2])] at hst
          have b2 : (Z.toList == x.toList) = true := by rw [tz, tx, he2]; simp
          have HRR := hid hst.symm
          clear hst ty ts tz tx he he2
          go_wp2
          go_ret
          exact ⟨by rw [HRR.out]; rfl, rfl⟩
        · rw [if_neg (fun e => by injection e with _ e; exact he2 e)] at hst
          have b2 : (Z.toList == x.toList) = false := by rw [tz, tx]; simpa using he2
          have HRR := hid hst
          clear hst ty ts tz tx he he2
          go_wp2
          go_round
          case rel => exact ⟨k + 1, by go_num, by omega, HRR⟩
          case measure => simp [RowKit.intOf]; omega
      · rw [if_neg (fun e => by injection e with e _; exact he e)] at hst
        have b1 : (Y.toList == s.toList) = false := by rw [ty, ts]; simpa using he
        have HRR := hid hst
        clear hst ty ts tz tx he
        go_wp2
        go_round
        case rel => exact ⟨k + 1, by go_num, by omega, HRR⟩
        case measure => simp [RowKit.intOf]; omega
    · have hltz : ¬ (k : Int) < (l.length : Int) := by omega
      have hst := hE.out
      rw [List.drop_of_length_le (by omega)] at hst
      have HRR : Hid (R = -1) := hid hst.symm
      clear hst
      go_wp2
      go_ret
      exact ⟨by rw [HRR.out]; rfl, rfl⟩
end Go.Proofs.YtlgmanbilaminaaGreatDoor.S12
namespace Go.Proofs.YtlgmanbilaminaaGreatDoor.S12
open Go Go.Proofs Go.RowKit Go.Lib Go.Proofs.YtlgmanbilaminaaGreatDoor Go.Proofs.YtlgmanbilaminaaGreatDoor.S11
theorem checkGo_next (c : Str) (cs : List Str) (k : Nat) (h : k < cs.length) :
    S3.checkGo (c :: cs.take k) (cs.drop k) = if S3.validC cs[k] = false then 10 else if cs[k] ∈ c :: cs.take k then 11 else S3.checkGo (c :: cs.take (k + 1)) (cs.drop (k + 1)) := by
  have := S3.checkGo_step (c :: cs) (k + 1) (by simpa using h)
  simpa using this
structure KSE (w0 : World) (L : List Str) (v : Value) (w : World) : Prop where
  r : S3.StrRow w w0.heap.size v L
  b : Below w0.heap.size w0 w
theorem KSE.next {w0 w w' : World} {L : List Str} {v : Value} (h : KSE w0 L v w) (hb : Below w.heap.size w w') : KSE w0 L v w' := ⟨row_under h.r hb, h.b.trans (hb.mono h.b.size)⟩
theorem KSE.app {w0 w w' : World} {L L' : List Str} {v v' : Value} (h : KSE w0 L v w) (hg : w.grownBy w' v.ownBlock) (hr : S3.StrRow w' w0.heap.size v' L') : KSE w0 L' v' w' :=
  ⟨hr, h.b.grown hg h.b.size (fun k hk => (World.ownsRow.lt h.r k hk).1)⟩
theorem row_take {w : World} {P : Nat → Prop} {A : Option Addr} {cs : List Str} (h : S3.StrsIn w P A cs) (k : Nat) : S3.StrsIn w P A (cs.take k) := by
  rcases h with h0 | ⟨b, off, hA, hP, hc⟩
  · exact .inl (by rw [h0, List.take_nil])
  · refine .inr ⟨b, off, hA, hP, fun j s hj => hc j s ?_⟩
    rw [List.getElem?_take] at hj
    split at hj
    · exact hj
    · simp at hj
set_option maxHeartbeats 32000000 in
set_option maxRecDepth 100000 in
theorem qrvalid_any (A : Option Addr) (l : List ReqD) (c : Nat) (w : World) (h : ReqsIn w (fun k => k < w.heap.size) A l) :
    Calls Tryz.prog 13 #[.slice A l.length c] w (Says (.int .i64 (validQ l)) w) := by
  obtain ⟨i9, hi9, hz9, hsi9, hby9⟩ := info_parts S3.infoStr
  unfold Says
  obtain ⟨R, hR⟩ : ∃ R, validQ l = R := ⟨_, rfl⟩
  rw [hR]
  unfold validQ at hR
  have HH := hid h
  clear h
  by_cases h400 : 400 < l.length
  · rw [if_pos h400] at hR
    subst hR
    have hz : (400 : Int) < (l.length : Int) := by omega
    go_enter Tryz.func13, Tryz.ntmps13
    go_wp2
    go_ret
    exact ⟨rfl, Below.refl _ _⟩
  · rw [if_neg h400] at hR
    have hz : ¬ (400 : Int) < (l.length : Int) := by omega
    have HR : Hid (goQ (l.take 0) (l.drop 0) = R) := hid hR
    clear hR
    go_enter Tryz.func13, Tryz.ntmps13
    go_wp2
    go_loopw [3, 4] (fun v iv wr => ∃ (i n : Nat) (As : Option Addr) (cn : Nat), v = .slice As n cn ∧ iv = .int .i64 (i : Int) ∧ i ≤ l.length ∧ n ≤ 64 ∧ Hid ((studs (l.take i)).length = n) ∧ Hid (goQ (l.take i) (l.drop i) = R) ∧ Hid (KSE w (studs (l.take i)) (.slice As n cn) wr)) (fun _ iv _ => l.length - (RowKit.intOf iv).toNat)
    case atStart => exact ⟨0, 0, none, 0, rfl, rfl, Nat.zero_le _, Nat.zero_le _, hid rfl, HR, hid ⟨World.ownsRow_nil _ _ _ _, Below.refl _ _⟩⟩
    case round =>
      obtain ⟨i, n, As, cn, rfl, rfl, hi, hn64, hn, hE, hK⟩ := hrel
      by_cases hlt : i < l.length
      · have hltz : (i : Int) < (l.length : Int) := by omega
        have dk : decide (l.length ≤ i) = false := decide_eq_false (by omega)
        have hst := goQ_step l i hlt
        rw [hE.out] at hst
        obtain ⟨fb, fo, ⟨A2, c2⟩, rfl, hfb, hri, y0, y1, y2, y3⟩ := (HH.out.below hK.out.b).at_ hlt
        have hix := idxP_lt (wishes l) i (by rw [wishes_len]; exact hlt)
        rw [show (wishes l)[i]'(by rw [wishes_len]; exact hlt) = (l[i].s, l[i].c) by simp [wishes], wishes_take] at hix
        have hsn := studs_snoc (l.take i) l[i]
        rw [← List.take_succ_eq_append_getElem hlt] at hsn
        have hpl : (l.take i).length = i := by rw [List.length_take]; omega
        obtain ⟨PRE, hPRE⟩ : ∃ P, l.take i = P := ⟨_, rfl⟩
        rw [hPRE] at hst hix hsn hpl hn hK
        have hE0 := hE
        obtain ⟨⟨st, co, pr, cs⟩, hr⟩ : ∃ r, l[i] = r := ⟨_, rfl⟩
        rw [hr] at hst y0 y1 y2 y3 hri hix hsn
        obtain ⟨ht, ht1, ht2⟩ := hri
        dsimp only at y0 y1 y2 y3 ht ht1 ht2 hix hsn
        have cV1 := fun w => S3.refValid_any (ba st) w
        rw [show (ba st).data.toList = st from rfl] at cV1
        have cV2 := fun w => S3.refValid_any (ba co) w
        rw [show (ba co).data.toList = co from rfl] at cV2
        have cI : Hid (∀ W, Below w.heap.size w W → Calls Tryz.prog 46 #[.slice (some ⟨fb, fo, none⟩) l.length c, .string (ba st), .string (ba co)] W fun e w' => e = .returned (.int .i64 (idxP (wishes l) (st, co) 0)) ∧ W = w') :=
          hid (fun W hb => rfind_any (some ⟨fb, fo, none⟩) l c (ba st) (ba co) _ W (HH.out.below hb) (by omega))
        have cHS : Hid (∀ W, KSE w (studs PRE) (.slice As n cn) W → Calls Tryz.prog 45 #[.slice As n cn, .string (ba st)] W fun e w' => e = .returned (.bool (decide (st ∈ studs PRE))) ∧ W = w') := hid (fun W hk => by
          obtain ⟨Ar', cr', hv, _, _, hin⟩ := hk.r.strsIn
          have hv' : As = Ar' := by injection hv
          have cH := rhas_any As (studs PRE) cn (ba st) _ W (by rw [hv']; exact hin) (by rw [hn.out]; omega)
          rw [hn.out] at cH
          exact cH)
        have hb1 := (Below.refl wr.heap.size wr).alloc (Nat.le_refl _) (.cells #[.string (ba st), .string (ba co), .int .i64 pr, .slice A2 cs.length c2] 61)
        have hx1 := Box4.new wr (.string (ba st)) (.string (ba co)) (.int .i64 pr) (.slice A2 cs.length c2)
        have hT := ht.kept (w' := wr.alloc (.cells #[.string (ba st), .string (ba co), .int .i64 pr, .slice A2 cs.length c2] 61)) (fun k hk => hb1.block k (Nat.lt_of_lt_of_le hk hK.out.b.size))
        obtain ⟨V1, hV1⟩ : ∃ V, S3.validC st = V := ⟨_, rfl⟩
        obtain ⟨V2, hV2⟩ : ∃ V, S3.validC co = V := ⟨_, rfl⟩
        obtain ⟨E, hE2⟩ : ∃ E, reqM ⟨st, co, pr, cs⟩ = E := ⟨_, rfl⟩
        rw [hE2] at hst
        unfold reqM at hE2
        dsimp only at hE2
        rw [hV1, hV2] at hE2
        rw [hV1] at cV1
        rw [hV2] at cV2
        have hacc : accM PRE ⟨st, co, pr, cs⟩ = if (st, co) ∈ wishes PRE then 11 else if st ∈ studs PRE then 0 else if (studs PRE).length = 64 then 2 else 0 := by
          unfold accM
          dsimp only
          by_cases hw : (st, co) ∈ wishes PRE
          · rw [if_neg (fun k => k.1 (wish_stud hw)), if_pos hw, if_pos hw]
          · rw [if_neg hw, if_neg hw, if_neg (show ¬ PRE.length = 400 by omega)]
            by_cases hs : st ∈ studs PRE
            · rw [if_neg (fun k => k.1 hs), if_pos hs]
            · rw [if_neg hs]
              by_cases h6 : (studs PRE).length = 64
              · rw [if_pos ⟨hs, h6⟩, if_pos h6]
              · rw [if_neg (fun k => h6 k.2), if_neg h6]
        rw [hacc] at hst
        obtain ⟨X1, hX1⟩ : ∃ X, ba st = X := ⟨_, rfl⟩
        rw [hX1] at y0 cV1 cI cHS hb1 hx1 hT
        have hXS : S3.strVals [st] = [.string X1] := by rw [← hX1]; rfl
        obtain ⟨X2, hX2⟩ : ∃ X, ba co = X := ⟨_, rfl⟩
        have hX2l : X2.toList = co := by rw [Lib.toList_data, ← hX2]; rfl
        rw [hX2] at y1 cV2 cI hb1 hx1 hT
        obtain ⟨T1, hT1⟩ : ∃ F, cs.length = F := ⟨_, rfl⟩
        rw [hT1] at y3 hE2 hb1 hx1 ht1 hT
        have HT1 := hid hT1
        have HIX := hid hix
        have HST := hid hst
        have HSN := hid hsn
        have HT := hid hT
        have HX1 := hid hx1
        have HXS := hid hXS
        have HX2L := hid hX2l
        have HVC := hid hV2
        have HKB := hid (hK.out.next hb1)
        have hnxt : Hid (goQ (PRE ++ [⟨st, co, pr, cs⟩]) (l.drop (i + 1)) = goQ (l.take (i + 1)) (l.drop (i + 1))) := hid (by rw [List.take_succ_eq_append_getElem hlt, hPRE, hr])
        clear hr hV1 hV2 hX1 hX2 hst ht hT hix hsn hE hE0 hb1 hx1 hT1 hXS hX2l hacc hK hpl hPRE hnxt
        cases V1 with
        | false =>
          have HRR : Hid (R = 10) := hid (by have h := HST.out; rw [← hE2] at h; simpa using h)
          clear hE2 cHS cI
          go_wp2_with fail
          generalize wr.alloc (.cells #[.string X1, .string X2, .int .i64 pr, .slice A2 T1 c2] 61) = w1 at HKB HX1 HT ⊢
          obtain ⟨x0, x1, x2, x3⟩ := HX1.out.cells
          go_wp2_with fail
          refine (cV1 _).mono ?_
          rintro e w' ⟨rfl, rfl⟩
          go_wp2
          go_ret
          rw [HRR.out]
          exact ⟨rfl, HKB.out.b⟩
        | true =>
        rw [if_neg (by simp)] at hE2
        cases V2 with
        | false =>
          have HRR : Hid (R = 10) := hid (by have h := HST.out; rw [← hE2] at h; simpa using h)
          clear hE2 cHS cI
          go_wp2_with fail
          generalize wr.alloc (.cells #[.string X1, .string X2, .int .i64 pr, .slice A2 T1 c2] 61) = w1 at HKB HX1 HT ⊢
          obtain ⟨x0, x1, x2, x3⟩ := HX1.out.cells
          go_wp2_with fail
          refine (cV1 _).mono ?_
          rintro e w' ⟨rfl, rfl⟩
          go_wp2_with fail
          refine (cV2 _).mono ?_
          rintro e w' ⟨rfl, rfl⟩
          go_wp2
          go_ret
          rw [HRR.out]
          exact ⟨rfl, HKB.out.b⟩
        | true =>
        rw [if_neg (by simp)] at hE2
        by_cases p1 : pr < 1
        · rw [if_pos p1] at hE2
          have p1d : decide (pr < 1) = true := decide_eq_true p1
          have HRR : Hid (R = 3) := hid (by have h := HST.out; rw [← hE2] at h; simpa using h)
          clear hE2 cHS cI
          go_wp2_with fail
          generalize wr.alloc (.cells #[.string X1, .string X2, .int .i64 pr, .slice A2 T1 c2] 61) = w1 at HKB HX1 HT ⊢
          obtain ⟨x0, x1, x2, x3⟩ := HX1.out.cells
          go_wp2_with fail
          refine (cV1 _).mono ?_
          rintro e w' ⟨rfl, rfl⟩
          go_wp2_with fail
          refine (cV2 _).mono ?_
          rintro e w' ⟨rfl, rfl⟩
          go_wp2
          go_ret
          rw [HRR.out]
          exact ⟨rfl, HKB.out.b⟩
        rw [if_neg p1] at hE2
        have p1d : decide (pr < 1) = false := decide_eq_false p1
        by_cases p2 : 9 < pr
        · rw [if_pos p2] at hE2
          have p2d : decide (9 < pr) = true := decide_eq_true p2
          have HRR : Hid (R = 3) := hid (by have h := HST.out; rw [← hE2] at h; simpa using h)
          clear hE2 cHS cI
          go_wp2_with fail
          generalize wr.alloc (.cells #[.string X1, .string X2, .int .i64 pr, .slice A2 T1 c2] 61) = w1 at HKB HX1 HT ⊢
          obtain ⟨x0, x1, x2, x3⟩ := HX1.out.cells
          go_wp2_with fail
          refine (cV1 _).mono ?_
          rintro e w' ⟨rfl, rfl⟩
          go_wp2_with fail
          refine (cV2 _).mono ?_
          rintro e w' ⟨rfl, rfl⟩
          go_wp2
          go_ret
          rw [HRR.out]
          exact ⟨rfl, HKB.out.b⟩
        rw [if_neg p2] at hE2
        have p2d : decide (9 < pr) = false := decide_eq_false p2
        by_cases z2 : 8 < T1
        · have z2' : (8 : Int) < (T1 : Int) := by omega
          have z2d : decide ((8 : Int) < (T1 : Int)) = true := decide_eq_true z2'
          rw [if_pos z2] at hE2
          have HRR : Hid (R = 2) := hid (by have h := HST.out; rw [← hE2] at h; simpa using h)
          clear hE2 cHS cI
          go_wp2_with fail
          generalize wr.alloc (.cells #[.string X1, .string X2, .int .i64 pr, .slice A2 T1 c2] 61) = w1 at HKB HX1 HT ⊢
          obtain ⟨x0, x1, x2, x3⟩ := HX1.out.cells
          go_wp2_with fail
          refine (cV1 _).mono ?_
          rintro e w' ⟨rfl, rfl⟩
          go_wp2_with fail
          refine (cV2 _).mono ?_
          rintro e w' ⟨rfl, rfl⟩
          go_wp2
          go_ret
          rw [HRR.out]
          exact ⟨rfl, HKB.out.b⟩
        have z2' : ¬ (8 : Int) < (T1 : Int) := by omega
        have z2d : decide ((8 : Int) < (T1 : Int)) = false := decide_eq_false z2'
        rw [if_neg z2] at hE2
        have hck : S3.checkGo (co :: cs.take 0) (cs.drop 0) = E := by
          rw [← hE2]
          unfold S3.checkM
          rw [if_neg (by simp [HT1.out]; omega)]
          rw [S3.checkGo, if_neg (by simp [HVC.out]), if_neg (by simp)]
          rfl
        have HCK := hid hck
        clear hE2 hck z2
        go_wp2_with fail
        generalize wr.alloc (.cells #[.string X1, .string X2, .int .i64 pr, .slice A2 T1 c2] 61) = w1 at HKB HX1 HT ⊢
        obtain ⟨x0, x1, x2, x3⟩ := HX1.out.cells
        generalize hBX : wr.heap.size = BX at HX1 x0 x1 x2 x3 ⊢
        go_wp2_with fail
        refine (cV1 _).mono ?_
        rintro e w' ⟨rfl, rfl⟩
        go_wp2_with fail
        refine (cV2 _).mono ?_
        rintro e w' ⟨rfl, rfl⟩
        go_wp2
        clear x0 x1 x2 x3 hBX cV1 cV2
        have HX2 := HX1
        have HT2 := HT
        have HK2 := HKB
        go_loopw [6] (fun kv wq => ∃ k : Nat, kv = .int .i64 (k : Int) ∧ k ≤ T1 ∧ Hid (S3.checkGo (co :: cs.take k) (cs.drop k) = E) ∧ Hid (KSE w (studs PRE) (.slice As n cn) wq) ∧ Hid (Box4 wq BX (.string X1) (.string X2) (.int .i64 pr) (.slice A2 T1 c2)) ∧ Hid (S3.StrsIn wq (fun b => b < w.heap.size) A2 cs)) (fun kv _ => T1 - (RowKit.intOf kv).toNat)
        case atStart => exact ⟨0, rfl, Nat.zero_le _, HCK, HK2, HX2, HT2⟩
        case round =>
          clear HX1 HT HKB HX2 HT2 HK2 HCK
          obtain ⟨k, rfl, hk, hC, HKB, HX1, HT⟩ := hrel
          obtain ⟨x0, x1, x2, x3⟩ := HX1.out.cells
          by_cases hkt : k < T1
          · have hktz : (k : Int) < (T1 : Int) := by omega
            have dk2 : decide (T1 ≤ k) = false := decide_eq_false (by omega)
            have hkl : k < cs.length := by rw [HT1.out]; exact hkt
            have hst := checkGo_next co cs k hkl
            rw [hC.out] at hst
            obtain ⟨b2, o2, rfl, _, hc2⟩ := HT.out.at_ hkl
            obtain ⟨y, hy⟩ : ∃ y, cs[k] = y := ⟨_, rfl⟩
            rw [hy] at hc2 hst
            have cV2 := fun w => S3.refValid_any (ba y) w
            rw [show (ba y).data.toList = y from rfl] at cV2
            have hin2 : ∀ q, S3.StrsIn (wr.drewN q) (fun b => b < w.heap.size) (some ⟨b2, o2, none⟩) (cs.take k) := fun q => drewN_stays (row_take HT.out k) q
            have cH := fun q => rhas_any (some ⟨b2, o2, none⟩) (cs.take k) c2 (ba y) _ (wr.drewN q) (hin2 q) (by rw [List.length_take]; omega)
            rw [lst_ba, List.length_take, Nat.min_eq_left (Nat.le_of_lt hkl)] at cH
            have hc3 : wr.cell? ⟨b2, o2 + k, none⟩ = some (.string (ba y)) := hc2
            obtain ⟨VV, hVV⟩ : ∃ V, S3.validC y = V := ⟨_, rfl⟩
            obtain ⟨U, hU⟩ : ∃ U, decide (y ∈ cs.take k) = U := ⟨_, rfl⟩
            rw [hVV] at cV2 hst
            rw [hU] at cH
            obtain ⟨Y, hY⟩ : ∃ Y, ba y = Y := ⟨_, rfl⟩
            have hYl : Y.toList = y := by rw [Lib.toList_data, ← hY]; rfl
            rw [hY] at cV2 cH hc3
            have CH := hid cH
            have HST2 := hid hst
            have HU := hid hU
            have HYL := hid hYl
            clear hy hc2 hst hVV hU hY cH hin2 hC hYl
            cases VV with
            | false =>
              have HRR : Hid (R = 10) := hid (by
                have h := HST2.out
                rw [if_pos rfl] at h
                have h2 := HST.out
                rw [h, if_pos (by decide)] at h2
                exact h2)
              clear HST HST2
              go_wp2_with fail
              refine (cV2 _).mono ?_
              rintro e w' ⟨rfl, rfl⟩
              go_wp2
              go_ret
              rw [HRR.out]
              exact ⟨rfl, HKB.out.b⟩
            | true =>
              go_wp2_with fail
              refine (cV2 _).mono ?_
              rintro e w' ⟨rfl, rfl⟩
              have hkc : k ≤ c2 := by omega
              have h11 : y ∈ co :: cs.take k → Hid (R = 11) := fun hm => hid (by
                  have h := HST2.out
                  rw [if_neg (by simp), if_pos hm] at h
                  have h2 := HST.out
                  rw [h, if_pos (by decide)] at h2
                  exact h2)
              by_cases hyc : y = co
              · have HRR := h11 (by rw [hyc]; simp)
                have hbe : (Y.toList == X2.toList) = true := by rw [HYL.out, HX2L.out, hyc]; simp
                clear HST HST2 h11 hyc CH
                go_wp2
                go_quiet (fail)
                go_wp2
                go_ret
                rw [HRR.out]
                exact ⟨rfl, S3.below_drewN HKB.out.b _⟩
              · have hbe : (Y.toList == X2.toList) = false := by rw [HYL.out, HX2L.out]; simpa using hyc
                cases U with
                | true =>
                  have HRR := h11 (List.mem_cons_of_mem _ (by simpa using HU.out))
                  clear HST HST2 h11 hyc
                  go_wp2
                  go_quiet ((go_at_call 45; with_reducible refine Calls.quiet_of_same ((CH.out _).mono fun _ _ h => ⟨h.1, h.2.symm⟩)))
                  go_wp2
                  go_ret
                  rw [HRR.out]
                  exact ⟨rfl, S3.below_drewN HKB.out.b _⟩
                | false =>
                  have HST3 : Hid (S3.checkGo (co :: cs.take (k + 1)) (cs.drop (k + 1)) = E) := hid (by
                    have h := HST2.out
                    rw [if_neg (by simp), if_neg (fun hm => by
                      rcases List.mem_cons.1 hm with h | h
                      · exact hyc h
                      · have := HU.out
                        simp at this
                        exact this h)] at h
                    exact h.symm)
                  clear HST2 h11 hyc
                  go_wp2
                  go_quiet ((go_at_call 45; with_reducible refine Calls.quiet_of_same ((CH.out _).mono fun _ _ h => ⟨h.1, h.2.symm⟩)))
                  go_wp2
                  go_roundw
                  case rel => exact ⟨k + 1, by go_num, by omega, HST3, hid (HKB.out.next (S3.below_drewN (Below.refl _ _) _)), hid (HX1.out.kept (S3.drewN_heap _ _ _)), hid (drewN_stays HT.out _)⟩
                  case measure => simp [RowKit.intOf]; omega
          · have hktz : ¬ (k : Int) < (T1 : Int) := by omega
            have HE0 : Hid (E = 0) := hid (by rw [← hC.out, List.drop_of_length_le (by rw [HT1.out]; omega)]; rfl)
            have cI2 := cI.out wr HKB.out.b
            obtain ⟨IX, hIX⟩ : ∃ I, idxP (wishes l) (st, co) 0 = I := ⟨_, rfl⟩
            rw [hIX] at cI2
            have HIX2 : Hid (IX < (i : Int) ↔ (st, co) ∈ wishes PRE) := hid (by rw [← hIX]; exact HIX.out)
            clear hIX HIX
            go_wp2_with fail
            refine cI2.mono ?_
            rintro e w' ⟨rfl, rfl⟩
            by_cases hm : (st, co) ∈ wishes PRE
            · have hIi : IX < (i : Int) := HIX2.out.2 hm
              have HRR : Hid (R = 11) := hid (by
                have h := HST.out
                rw [HE0.out, if_neg (by simp), if_pos hm] at h
                simpa using h)
              clear HST HE0 hC hm
              go_wp2
              go_ret
              rw [HRR.out]
              exact ⟨rfl, HKB.out.b⟩
            · have hIi : ¬ IX < (i : Int) := fun h => hm (HIX2.out.1 h)
              have HST4 : Hid (R = if (if st ∈ studs PRE then (0 : Int) else if (studs PRE).length = 64 then 2 else 0) ≠ 0 then (if st ∈ studs PRE then (0 : Int) else if (studs PRE).length = 64 then 2 else 0) else goQ (l.take (i + 1)) (l.drop (i + 1))) := hid (by have h := HST.out; rw [HE0.out, if_neg (by simp), if_neg hm] at h; exact h)
              clear HST HE0 hC
              have cS := hid (cHS.out wr HKB.out)
              by_cases hs : st ∈ studs PRE
              · have hsd : decide (st ∈ studs PRE) = true := by simpa using hs
                rw [hsd] at cS
                have HNX : Hid (goQ (l.take (i + 1)) (l.drop (i + 1)) = R) := hid (by
                  have h := HST4.out
                  rw [if_pos hs, if_neg (by simp)] at h
                  exact h.symm)
                have HSE : Hid (studs (l.take (i + 1)) = studs PRE) := hid (by rw [HSN.out]; unfold addS; rw [if_pos hs])
                have hnz : ¬ (64 : Int) < (n : Int) := by omega
                clear HST4 hm hs hsd HSN
                go_wp2_with fail
                refine cS.out.mono ?_
                rintro e w' ⟨rfl, rfl⟩
                go_wp2
                go_roundw
                case rel => exact ⟨i + 1, n, As, cn, rfl, by go_num, by omega, hn64, hid (by rw [HSE.out]; exact hn.out), HNX, hid (by rw [HSE.out]; exact HKB.out)⟩
                case measure => simp [RowKit.intOf]; omega
              · have hsd : decide (st ∈ studs PRE) = false := by simpa using hs
                rw [hsd] at cS
                have HSE : Hid (studs (l.take (i + 1)) = studs PRE ++ [st]) := hid (by rw [HSN.out]; unfold addS; rw [if_neg hs])
                have HFI : Hid (if n = 64 then R = 2 else goQ (l.take (i + 1)) (l.drop (i + 1)) = R) := hid (by
                  have h := HST4.out
                  rw [if_neg hs, hn.out] at h
                  by_cases h6 : n = 64
                  · rw [if_pos h6] at h ⊢
                    simpa using h
                  · rw [if_neg h6] at h ⊢
                    rw [if_neg (by simp)] at h
                    exact h.symm)
                have hrow := HKB.out.r
                unfold S3.StrRow at hrow
                rw [hn.out] at hrow
                have HROW := hid hrow
                have HC3 : Hid (n + 1 ≤ maxLen) := by unfold maxLen; exact hid (by omega)
                have HC4 : Hid ((n + 1) * 16 ≤ 140737488355328) := hid (by omega)
                have HC5 : Hid (∀ o : Obj, w.heap.size ≤ (wr.alloc o).heap.size) := hid (fun o => by have := HKB.out.b.size; simp; omega)
                clear HST4 hm hs hsd HSN hrow
                go_wp2_with fail
                refine cS.out.mono ?_
                rintro e w' ⟨rfl, rfl⟩
                go_wp2_with (at_builtin; refine wpList_append_own _ rfl _ _ 40 rfl w.heap.size 9 i9 (.string ⟨#[]⟩) 1 16 Tryz.underlying40 hi9 hz9 hsi9 hby9 rfl (by decide) _ n (S3.strVals (studs PRE)) rfl (World.ownsRow.alloc HROW.out _) ⟨wr.heap.size, 0, none⟩ 1 1 [.string X1] rfl rfl (one_new _ _ _) (S3.one_str _) HC3.out HC4.out (HC5.out _) ?_)
                intro v' w4 hown' hgrow _
                obtain ⟨A6, c6, rfl⟩ := S3.row_slice hown'
                have hrow6 : S3.StrRow w4 w.heap.size (.slice A6 (n + 1) c6) (studs PRE ++ [st]) := by
                  unfold S3.StrRow
                  rw [S3.strVals_app, List.length_append, hn.out, HXS.out]
                  exact hown'
                have HKF := hid (HKB.out.app (grownBy_of_alloc hgrow) hrow6)
                clear hown' hgrow hrow6 HC3 HC4 HC5 HROW HKB x0 x1 x2 x3 HX1 HT
                by_cases h6 : n = 64
                · have hnz : (64 : Int) < ((n : Int) + 1) := by omega
                  have HRR : Hid (R = 2) := hid (by have h := HFI.out; rw [if_pos h6] at h; exact h)
                  clear h6 HFI
                  go_wp2
                  go_ret
                  rw [HRR.out]
                  exact ⟨rfl, HKF.out.b⟩
                · have hnz : ¬ (64 : Int) < ((n : Int) + 1) := by omega
                  have HNX : Hid (goQ (l.take (i + 1)) (l.drop (i + 1)) = R) := hid (by have h := HFI.out; rw [if_neg h6] at h; exact h)
                  clear HFI
                  go_wp2
                  go_roundw
                  case rel => exact ⟨i + 1, n + 1, A6, c6, rfl, by go_num, by omega, by omega, hid (by rw [HSE.out, List.length_append, hn.out]; rfl), HNX, hid (by rw [HSE.out]; exact HKF.out)⟩
                  case measure => simp [RowKit.intOf]; omega
      · have hltz : ¬ (i : Int) < (l.length : Int) := by omega
        have hn0 : Hid (R = 0) := hid (by rw [← hE.out, List.drop_of_length_le (by omega)]; rfl)
        have HKB := hid hK.out.b
        clear hK
        go_wp2
        go_ret
        rw [hn0.out]
        exact ⟨rfl, HKB.out⟩
end Go.Proofs.YtlgmanbilaminaaGreatDoor.S12
namespace Go.Proofs.YtlgmanbilaminaaGreatDoor.S12
open Go Go.Proofs Go.RowKit Go.Lib Go.Sort Go.Proofs.YtlgmanbilaminaaGreatDoor
open Go.Maps (Keyed string_keyed)
open Go.WideMaps (keyOf_string_mk)
theorem collected_perm {L ss : List Str} {left : Lit → Bool} (hC : Collected (setB L) left ss) (hL : L.Nodup) (hl : ∀ kl, left kl = false) : ss.Perm L := by
  refine (List.perm_ext_iff_of_nodup hC.1 hL).2 fun x => ?_
  rw [hC.2 x, hl, show (Lit.string x) = litS x from rfl, has_setB]
  simp
theorem rowLow {w : World} {e z n B B' : Nat} {v : Value} {xs : List Value} (h : w.ownsRow B e z v n xs) (hB : B' ≤ B) : w.ownsRow B' e z v n xs := by
  obtain ⟨h1, h2⟩ := h
  refine ⟨h1, ?_⟩
  rcases h2 with h2 | ⟨g, cap, cur, hv, hg, r⟩
  · exact .inl h2
  · exact .inr ⟨g, cap, cur, hv, Nat.le_trans hB hg, r⟩
theorem stud_next {wr w2 : World} {r : Nat} {ss L : List Str} {A1 : Option Addr} {c1 cnt cnt2 : Nat} (x : List UInt8) (hrow : S3.StrRow wr (r + 1) (.slice A1 ss.length c1) ss) (hg : wr.grownBy w2 (some r)) (hs2 : w2.heap.size = wr.heap.size) (hrs : r + 1 ≤ wr.heap.size)
    (hcnt : ss.length + cnt ≤ L.length) (hlt : cnt2 < cnt) (hni : L.length ≤ 2199023255552) :
    (w2.alloc (.cells #[encStr x] 9)).ownsRow (r + 1) 9 1 (.slice A1 ss.length c1) ss.length (S3.strVals ss) ∧ (∀ (j : Nat) (u : Value), [encStr x][j]? = some u → (w2.alloc (.cells #[encStr x] 9)).cell? ((⟨w2.heap.size, 0, none⟩ : Addr).add j) = some u) ∧
    ss.length + 1 ≤ maxLen ∧ (ss.length + 1) * 16 ≤ 140737488355328 ∧ r + 1 ≤ (w2.alloc (.cells #[encStr x] 9)).heap.size := by
  refine ⟨World.ownsRow.alloc (World.ownsRow.kept hrow hg ?_) _, one_new w2 _ _, by unfold maxLen; omega, by omega, by simp; omega⟩
  cases A1 with
  | none => exact .inl rfl
  | some a =>
    refine .inr (fun e => ?_)
    have h1 := (World.ownsRow.lt hrow a.block rfl).1
    injection e with e
    omega
theorem stud_row {w2 w5 : World} {r : Nat} {ss : List Str} {v' v : Value} {x : List UInt8} (hown : w5.ownsRow (r + 1) 9 1 v' (ss.length + 1) (S3.strVals ss ++ [encStr x])) : S3.StrRow w5 (r + 1) v' (ss ++ [x]) := by
  unfold S3.StrRow
  rw [List.length_append, List.length_singleton, show S3.strVals (ss ++ [x]) = S3.strVals ss ++ [encStr x] by unfold S3.strVals; rw [List.map_append]; rfl]
  exact hown
structure BW where
  b : Bool
def bwV (x : BW) : Value := .bool x.b
set_option maxHeartbeats 16000000 in
set_option maxRecDepth 100000 in
theorem students_any (A : Option Addr) (l : List ReqD) (c : Nat) (w : World) (h : ReqsIn w (fun k => k < w.heap.size) A l) (hl : l.length ≤ 2199023255552) (hs : ∀ r ∈ l, r.s.length ≤ maxLen) :
    Calls Tryz.prog 18 #[.slice A l.length c] w (S3.RowOut (studM l) w) := by
  have hmm := @run_makeMap Tryz.prog
  obtain ⟨i9, hi9, hz9, hsi9, hby9⟩ := info_parts S3.infoStr
  unfold S3.RowOut
  have hlm : l.length ≤ maxLen := by unfold maxLen; omega
  have HH := hid (fun (w' : World) (hb : Below w.heap.size w w') => h.below hb)
  have HS := hid hs
  have e0 := KStud.made w
  have b0 := (Below.refl w.heap.size w).alloc (Nat.le_refl _) (.map #[] 0)
  have s0 : (w.alloc (.map #[] 0)).heap.size = w.heap.size + 1 := by simp
  have E0 := hid e0
  have B0 := hid b0
  have S0 := hid s0
  have HLM := hid hlm
  have HL := hid hl
  clear h hs e0 b0 s0 hlm hl
  go_enter Tryz.func18, Tryz.ntmps18
  go_wp2_with fail
  generalize w.alloc (.map #[] 0) = wz at E0 B0 S0 ⊢
  clear hmm
  go_loopw [11] (fun iv wr => ∃ i : Nat, iv = .int .i64 (i : Int) ∧ i ≤ l.length ∧ Hid (KStud wr w.heap.size i (studs (l.take i))) ∧ Hid (Below w.heap.size w wr)) (fun iv _ => l.length - (RowKit.intOf iv).toNat)
  case atStart => exact ⟨0, rfl, Nat.zero_le _, hid E0.out, hid B0.out⟩
  case round =>
    obtain ⟨i, rfl, hi, hS, hB⟩ := hrel
    by_cases hlt : i < l.length
    · have hltz : (i : Int) < (l.length : Int) := by omega
      have hib : i + 1 ≤ 2199023255552 := by have := HL.out; omega
      obtain ⟨fb, fo, q, rfl, hfb, hri, y0, y1, y2, y3⟩ := (HH.out _ hB.out).at_ hlt
      have hkey : keyOf Tryz.prog 9 (.string (ba l[i].s)) = some (litS l[i].s) := by
        have := keyOf_string_mk Tryz.underlying9 (s := ba l[i].s) (by rw [Lib.size_eq]; exact HS.out _ (List.getElem_mem hlt))
        exact this
      have hst : studs (l.take (i + 1)) = addS (studs (l.take i)) l[i].s := by rw [List.take_succ_eq_append_getElem hlt, studs_snoc]
      have hbx : ∀ o, Below w.heap.size w (wr.alloc o) := fun o => hB.out.alloc hB.out.size o
      have HST := hid hst
      have HKEY := hid hkey
      have HBX := hid hbx
      obtain ⟨X1, hX1⟩ : ∃ X, ba l[i].s = X := ⟨_, rfl⟩
      rw [hX1] at y0 HKEY
      have HIM : Hid (i < maxLen) := hid (by have := HLM.out; omega)
      clear hst hkey hbx hri hfb hX1
      go_wp2_with (at_mapUpdate; refine wpList_mapUpdate_own _ rfl _ _ _ 81 rfl 9 4 law9 Tryz.underlying81 boolE w.heap.size i (setB (studs (l.take i))) rfl (hS.out.own.alloc _) HIM.out _ _ _ rfl rfl HKEY.out (.lit (.bool true)) [] rfl ?_; intro w4 hown4 hgrow4)
      have HK4 := hid (hS.out.put hown4)
      have HB4 := hid ((HBX.out _).grown hgrow4 (HBX.out _).size (fun k e => by injection e with e; omega))
      clear hown4 hgrow4
      go_wp2_with fail
      go_roundw
      case rel => exact ⟨i + 1, by go_num, by omega, hid (by rw [HST.out]; exact HK4.out), hid HB4.out⟩
      case measure => simp [RowKit.intOf]; omega
    · have hltz : ¬ (i : Int) < (l.length : Int) := by omega
      rw [List.take_of_length_le (by omega)] at hS
      have HNL := hid (studs_len l)
      have HND := hid (studs_nodup l)
      have HMEM : Hid (∀ s ∈ studs l, s.length ≤ maxLen) := hid (fun s hs => by obtain ⟨r, hr, e⟩ := (mem_studs l s).1 hs; rw [← e]; exact HS.out r hr)
      have HU := hid (fun ss => studM_unique (l := l) (ss := ss))
      obtain ⟨L, hL⟩ : ∃ L, studs l = L := ⟨_, rfl⟩
      rw [hL] at hS HNL HND HMEM HU
      clear hL
      go_wp2_with (at_range; refine wpList_range_own _ rfl _ 81 rfl 9 4 law9 Tryz.underlying81 boolE w.heap.size i (setB L) rfl hS.out.own ?_; intro w0 hrg0 hg0 hs0)
      have HB0 := hid (hB.out.grown hg0 hB.out.size (fun k e => by cases e))
      have HRG0 := hid hrg0
      have HS0 := hid hs0
      have hwl := hB.out.size
      have hsz0 : Maps.size (setB L) = L.length := hS.out.sz
      have HSZ0 := hid hsz0
      have HOWN := hid hS.out.own
      have HNI : Hid (L.length ≤ 2199023255552) := hid (by have := HNL.out; have := HL.out; omega)
      obtain ⟨r, hr⟩ : ∃ r, wr.heap.size = r := ⟨_, rfl⟩
      rw [hr] at HRG0 HS0 hwl
      rw [hr]
      clear hrg0 hg0 hs0 hsz0 hr hS hB hltz hi hlt
      try go_frame
      go_loopw [6] (fun v wr => ∃ (left : Lit → Bool) (cnt : Nat) (ss : List Str), Hid (wr.ranges Tryz.prog 9 boolE w.heap.size r i (setB L) left cnt) ∧ Hid (Collected (setB L) left ss) ∧ Hid (S3.StrRow wr (r + 1) v ss) ∧ Hid (Below w.heap.size w wr) ∧ Hid (r + 1 ≤ wr.heap.size) ∧ Hid (ss.length + cnt ≤ L.length)) (fun _ wr => wr.rangeLeft w.heap.size r)
      case atStart => exact ⟨_, _, [], hid HRG0.out, hid (Collected.start _), hid (World.ownsRow_nil _ _ _ _), hid HB0.out, hid (by rw [HS0.out]; exact Nat.le_refl _), hid (by rw [HSZ0.out]; simp)⟩
      case round =>
        obtain ⟨left, cnt, ss, hrg, hC, hrow, hB, hrs, hcnt⟩ := hrel
        obtain ⟨A1, c1, rfl, _, _, _⟩ := hrow.out.strsIn
        go_wp2_with (first
          | (at_next; refine wpList_next_ranges _ rfl _ rfl 9 law9 boolE encStr bwV (fun key kl hk => by obtain ⟨x, hx, _⟩ := Maps.keyOf_str Tryz.underlying9 hk; exact ⟨x, hx⟩) (fun v y hv => by obtain ⟨b, hb, _⟩ := boolE_inv hv; exact ⟨⟨b⟩, hb⟩) w.heap.size r i _ _ _ rfl hrg.out ?_ ?_; intro hc0 hl0; rotate_left; intro x cb kl y w2 cnt2 hkey hlk hv hat hrg2 hlt2 hg2 hs2 hen; have HSN := hid (stud_next x hrow.out hg2 hs2 hrs.out hcnt.out hlt2 HNI.out); have HS2 := hid hs2; have HK2 := hid (And.intro hkey (And.intro hlk hat)); have HR2 := hid hrg2; have HG2 := hid hg2; have HLT := hid hlt2; clear hs2 hkey hlk hat hv hrg2 hg2 hlt2; rotate_left)
          | (at_builtin; refine wpList_append_own_at _ rfl _ _ 40 rfl (r + 1) 9 i9 (.string ⟨#[]⟩) 1 16 Tryz.underlying40 hi9 hz9 hsi9 hby9 rfl (by decide) _ ss.length (S3.strVals ss) rfl HSN.out.1 ⟨w2.heap.size, 0, none⟩ 1 1 [encStr x] rfl rfl HSN.out.2.1 (fun u hu => by rw [List.mem_singleton] at hu; subst hu; rfl) HSN.out.2.2.1 HSN.out.2.2.2.1 HSN.out.2.2.2.2 ?_; intro v' w5 hown' hgrow hnil hat; have HV5 := hid (stud_row (w2 := w2) (v := v') hown'); have HG5 := hid (And.intro hgrow hat); clear hown' hgrow hnil hat))
        · have HP := hid (collected_perm hC.out HND.out hl0)
          have HLN := hid (HP.out.length_eq)
          have cS := fun w' (hb : S3.StrRow w' (r + 1) (.slice A1 ss.length c1) ss) (hs : r + 1 ≤ w'.heap.size) => sortRow_any _ ss (r + 1) w' hb hs (by have := HLN.out; have := HNI.out; omega) (fun s hs => HMEM.out s (HP.out.subset hs))
          have CS := hid (cS wr hrow.out hrs.out)
          clear cS hc0 hl0
          go_wp2_with fail
          refine CS.out.mono ?_
          rintro e w3 ⟨rfl, hrow3, hb3⟩
          have HROW := hid hrow3
          have HB3 := hid (hB.out.trans (hb3.mono (by have := hwl; omega)))
          clear hrow3 hb3
          go_wp2
          go_ret
          refine ⟨⟨_, rfl, ?_⟩, HB3.out⟩
          have hu := HU.out (ss.mergeSort leS) ((List.mergeSort_perm _ _).trans HP.out) (List.pairwise_mergeSort leS_trans leS_total _)
          rw [hu] at HROW
          have h1 := HROW.out
          have h2 : (studM l).length = ss.length := by rw [← hu, List.length_mergeSort]
          unfold S3.StrRow at h1 ⊢
          rw [h2] at h1 ⊢
          exact rowLow h1 (by omega)
        · obtain ⟨hkey, hlk, hat⟩ := HK2.out
          obtain ⟨x', ex, rfl, _⟩ := Maps.keyOf_str Tryz.underlying9 hkey
          obtain rfl : x = x' := encStr_inj ex
          have hC2 := hC.out.step hlk hat
          have HC2 := hid hC2
          have hlow : ∀ k, (Value.slice A1 ss.length c1).ownBlock = some k → r + 1 ≤ k := fun k e => (World.ownsRow.lt hrow.out k e).1
          have hgr := grownBy_of_alloc HG5.out.1
          have hR5 : w5.ranges Tryz.prog 9 boolE w.heap.size r i (setB L) (fun z => left z && !z.sameKey (.string x)) cnt2 := HR2.out.kept hgr (fun e => by have := hlow _ e.symm; omega) (fun e => by have := hlow _ e.symm; omega)
          have hB5 : Below w.heap.size w w5 := (hB.out.grown HG2.out (by have := hrs.out; omega) (fun k e => by injection e with e; omega)).grown hgr (by have := hrs.out; have := HS2.out; omega) (fun k e => by have := hlow _ e; omega)
          have hz5 : r + 1 ≤ w5.heap.size := Nat.le_trans (by have := hrs.out; have := HS2.out; omega) hgr.size
          have HE1 := hid (HR2.out.left_eq)
          go_roundw
          case rel => exact ⟨_, cnt2, ss ++ [x], hid hR5, HC2, HV5, hid hB5, hid hz5, hid (by have := hcnt.out; have := HLT.out; simp; omega)⟩
          case measure =>
            rw [hR5.left_eq, hrg.out.left_eq]
            exact HLT.out
end Go.Proofs.YtlgmanbilaminaaGreatDoor.S12
namespace Go.Proofs.YtlgmanbilaminaaGreatDoor.S3
open Go Go.Proofs Go.RowKit Go.Lib Go.Proofs.YtlgmanbilaminaaGreatDoor
theorem ex_drew {w w' : World} (h : ∃ q, w' = w.drewN q) (n : Nat) : ∃ q, w'.drewN n = w.drewN q := by
  obtain ⟨q, rfl⟩ := h
  exact ⟨q + n, by rw [World.drewN_drewN]⟩
def ElemOut (s : ByteArray) (w : World) (e : Ending) (w' : World) : Prop :=
  (∃ X Y : ByteArray, e = .returned (.tuple #[.string X, .string Y]) ∧ lst X = (lst s).take (elemN (lst s)) ∧ lst Y = (lst s).drop (elemN (lst s))) ∧ ∃ q, w' = w.drewN q
set_option maxHeartbeats 4000000 in
set_option maxRecDepth 100000 in
theorem element_any (s : ByteArray) (h0 : 0 < s.size) (hs : s.size ≤ 9223372036854775807) (w : World) : Calls Tryz.prog 55 #[.string s] w (ElemOut s w) := by
  have hl0 : 0 < (lst s).length := by rw [← Lib.size_eq]; exact h0
  have hst := fun k hk h => elemN_step (lst s) hl0 k hk h
  have hsp := fun k hk h => elemN_stop (lst s) hl0 k hk h
  rw [show (lst s)[0] = s[0]'h0 from rfl] at hst hsp
  obtain ⟨x0, hx0⟩ : ∃ x, s[0]'h0 = x := ⟨_, rfl⟩
  rw [show dg (s[0]'h0) = dg x0 by rw [hx0]] at hst hsp
  have c0 := digit_any x0
  obtain ⟨d, hd⟩ : ∃ d, dg x0 = d := ⟨_, rfl⟩
  rw [hd] at hst hsp c0
  have HST := hid hst
  have HSP := hid hsp
  have h1 := hid (elemN_pos (lst s) (lst_ne h0))
  clear hst hsp hd
  go_enter Tryz.func55, Tryz.ntmps55
  go_wp2
  go_loopw [4] (fun i wr => ∃ (k : Nat), 1 ≤ k ∧ k ≤ s.size ∧ i = .int .i64 (k : Int) ∧ Hid (k ≤ elemN (lst s)) ∧ Hid (∃ q, wr = w.drewN q)) (fun i _ => s.size - (RowKit.intOf i).toNat)
  case atStart => exact ⟨1, Nat.le_refl _, h0, rfl, h1, hid ⟨0, rfl⟩⟩
  case round =>
    obtain ⟨k, hk1, hk, rfl, hle, hD⟩ := hrel
    by_cases hlt : k < s.size
    · have hltz : (k : Int) < (s.size : Int) := by omega
      have hltd : decide ((k : Int) < (s.size : Int)) = true := decide_eq_true hltz
      have hltn : decide (k < s.size) = true := decide_eq_true hlt
      have hlt' : k < (lst s).length := by rw [← Lib.size_eq]; exact hlt
      have h1 := HST.out k hlt' hle.out
      have h2 := HSP.out k hlt' hle.out
      have e1 : (lst s)[k] = s[k]'hlt := rfl
      rw [e1] at h1 h2
      obtain ⟨x, hx⟩ : ∃ x, s[k]'hlt = x := ⟨_, rfl⟩
      rw [hx] at h1 h2
      have cX := digit_any x
      have H1 := hid h1
      have H2 := hid h2
      clear h1 h2 e1
      by_cases hdx : dg x = d
      · have hN : Hid (k + 1 ≤ elemN (lst s)) := hid (H1.out hdx)
        rw [hdx] at cX
        have hdd : (d == d) = true := by simp
        clear hdx H1 H2
        go_wp2
        go_quiet ((first | (go_at_call_of 56 x.toNat; with_reducible refine Calls.quiet_of_same ((cX _).mono fun _ _ h => ⟨h.1, h.2.symm⟩)) | (go_at_call_of 56 x0.toNat; with_reducible refine Calls.quiet_of_same ((c0 _).mono fun _ _ h => ⟨h.1, h.2.symm⟩))))
        go_wp2
        go_roundw
        case rel => exact ⟨k + 1, by omega, by omega, by go_num, hN, hid (ex_drew hD.out _)⟩
        case measure => simp [RowKit.intOf]; omega
      · have hN : Hid (elemN (lst s) = k) := hid (H2.out hdx)
        have hdd : (dg x == d) = false := by simpa using hdx
        clear hdx H1 H2
        have hkz : (0 : Int) ≤ (k : Int) := by omega
        have hkz2 : (k : Int) ≤ (s.size : Int) := by omega
        go_wp2
        go_quiet ((first | (go_at_call_of 56 x.toNat; with_reducible refine Calls.quiet_of_same ((cX _).mono fun _ _ h => ⟨h.1, h.2.symm⟩)) | (go_at_call_of 56 x0.toNat; with_reducible refine Calls.quiet_of_same ((c0 _).mono fun _ _ h => ⟨h.1, h.2.symm⟩))))
        go_wp2
        go_quiet (fail)
        go_wp2
        go_ret2
        unfold ElemOut
        refine ⟨⟨_, _, rfl, ?_, ?_⟩, ex_drew (ex_drew hD.out _) _⟩
        · rw [lst_extract, hN.out]; simp
        · rw [lst_extract, hN.out, List.take_of_length_le (by rw [← Lib.size_eq]; exact Nat.le_refl _)]
    · have hltz : ¬ (k : Int) < (s.size : Int) := by omega
      have hltd : decide ((k : Int) < (s.size : Int)) = false := decide_eq_false hltz
      have hltn : decide (k < s.size) = false := decide_eq_false hlt
      have hks : k = s.size := by omega
      have hN : Hid (elemN (lst s) = k) := hid (by
        have := elemN_le (lst s)
        have h2 := hle.out
        have e : s.size = (lst s).length := Lib.size_eq s
        omega)
      have hkz : (0 : Int) ≤ (k : Int) := by omega
      have hkz2 : (k : Int) ≤ (s.size : Int) := by omega
      clear hks
      go_wp2
      go_quiet (fail)
      go_wp2
      go_quiet (fail)
      go_wp2
      go_ret2
      unfold ElemOut
      refine ⟨⟨_, _, rfl, ?_, ?_⟩, ex_drew (ex_drew hD.out _) _⟩
      · rw [lst_extract, hN.out]; simp
      · rw [lst_extract, hN.out, List.take_of_length_le (by rw [← Lib.size_eq]; exact Nat.le_refl _)]
theorem bareS_step (S : ByteArray) (h : 0 < S.size) (e : S[0]'h = 48) : bareS (lst (S.extract 1 S.size)) = bareS (lst S) := by
  rw [lst_extract, List.take_of_length_le (by rw [← Lib.size_eq]; exact Nat.le_refl _)]
  have h' : 0 < (lst S).length := by rw [← Lib.size_eq]; exact h
  cases hl : lst S with
  | nil => rw [hl] at h'; simp at h'
  | cons c r =>
    have : c = 48 := by
      have e2 : (lst S)[0] = S[0]'h := rfl
      rw [e] at e2
      simpa [hl] using e2
    subst this
    simp [bareS]
theorem bareS_stop (S : ByteArray) (h : 0 < S.size) (e : S[0]'h ≠ 48) : bareS (lst S) = lst S := by
  have h' : 0 < (lst S).length := by rw [← Lib.size_eq]; exact h
  cases hl : lst S with
  | nil => rfl
  | cons c r =>
    have : c ≠ 48 := by
      have e2 : (lst S)[0] = S[0]'h := rfl
      rw [← e2] at e
      simpa [hl] using e
    simp [bareS, this]
set_option maxHeartbeats 4000000 in
set_option maxRecDepth 100000 in
theorem bare_any (s : ByteArray) (hs : s.size ≤ 9223372036854775807) (w : World) : Calls Tryz.prog 57 #[.string s] w fun e w' => (∃ A : ByteArray, e = .returned (.string A) ∧ lst A = bareS (lst s) ∧ A.size ≤ s.size) ∧ w = w' := by
  go_enter Tryz.func57, Tryz.ntmps57
  go_wp2
  go_loop [0] (fun v => ∃ S : ByteArray, v = .string S ∧ S.size ≤ s.size ∧ Hid (bareS (lst S) = bareS (lst s))) (fun v => strSize v)
  case atStart => exact ⟨s, rfl, Nat.le_refl _, hid rfl⟩
  case round =>
    obtain ⟨S, rfl, hSs, hE⟩ := hrel
    by_cases hlt : 0 < S.size
    · have hltz : (0 : Int) < (S.size : Int) := by omega
      have h1z : (1 : Int) ≤ (S.size : Int) := by omega
      have hs1 := bareS_step S hlt
      have hs2 := bareS_stop S hlt
      obtain ⟨x, hx⟩ : ∃ x, S[0]'hlt = x := ⟨_, rfl⟩
      rw [hx] at hs1 hs2
      by_cases h48 : x = 48
      · have hz : ((x.toNat : Int) == 48) = true := by rw [h48]; rfl
        have hn := hid (hs1 h48)
        clear h48 hs1 hs2
        go_wp2
        go_round
        case rel => exact ⟨_, rfl, by rw [ByteArray.size_extract]; omega, by rw [hn.out]; exact hE⟩
        case measure =>
          show (S.extract 1 S.size).size < S.size
          rw [ByteArray.size_extract]
          omega
      · have hz : ((x.toNat : Int) == 48) = false := by
          have : x.toNat ≠ 48 := fun e => h48 (UInt8.toNat_inj.1 e)
          simp
          omega
        have hn := hid (hs2 h48)
        clear h48 hs1 hs2
        go_wp2
        go_ret
        exact ⟨⟨S, rfl, by rw [← hE.out, hn.out], hSs⟩, rfl⟩
    · have hltz : ¬ (0 : Int) < (S.size : Int) := by omega
      have hn := hid (lst_nil hlt)
      go_wp2
      go_ret
      exact ⟨⟨S, rfl, by rw [← hE.out, hn.out]; rfl, hSs⟩, rfl⟩
theorem less_cases : ∀ (a b : Str), (Op.bytesLess a b = true ∧ compareBytes a b = -1) ∨ (Op.bytesLess a b = false ∧ (a == b) = false ∧ compareBytes a b = 1) ∨ (Op.bytesLess a b = false ∧ (a == b) = true ∧ compareBytes a b = 0)
  | [], [] => .inr (.inr ⟨rfl, rfl, rfl⟩)
  | [], _ :: _ => .inl ⟨rfl, rfl⟩
  | _ :: _, [] => .inr (.inl ⟨rfl, rfl, rfl⟩)
  | x :: a, y :: b => by
    have ih := less_cases a b
    unfold Op.bytesLess compareBytes
    by_cases h1 : x < y
    · exact .inl ⟨by simp [h1], by rw [if_pos h1]⟩
    · have hd : decide (x < y) = false := by simpa using h1
      rw [hd, if_neg h1]
      by_cases h2 : y < x
      · have hne : ¬ x = y := by
          rw [UInt8.lt_iff_toNat_lt] at h2
          intro e
          rw [e] at h2
          omega
        have hb : (x == y) = false := by simpa using hne
        rw [if_pos h2, hb]
        exact .inr (.inl ⟨rfl, by simp [hne], rfl⟩)
      · have he : x = y := by
          rw [UInt8.lt_iff_toNat_lt] at h1 h2
          exact UInt8.toNat_inj.1 (by omega)
        subst he
        rw [if_neg h2, show (x == x) = true by simp, show ((x :: a) == (x :: b)) = (a == b) by simp]
        simpa using ih
set_option maxHeartbeats 1000000 in
theorem order_any (a b : ByteArray) (w : World) : Calls Tryz.prog 58 #[.string a, .string b] w fun e w' => e = .returned (.int .i64 (compareBytes (lst a) (lst b))) ∧ w = w' := by
  have h := less_cases a.toList b.toList
  rw [Lib.toList_data, Lib.toList_data] at h
  change (Op.bytesLess (lst a) (lst b) = true ∧ compareBytes (lst a) (lst b) = -1) ∨ (Op.bytesLess (lst a) (lst b) = false ∧ ((lst a) == (lst b)) = false ∧ compareBytes (lst a) (lst b) = 1) ∨ (Op.bytesLess (lst a) (lst b) = false ∧ ((lst a) == (lst b)) = true ∧ compareBytes (lst a) (lst b) = 0) at h
  rcases h with ⟨h1, e⟩ | ⟨h1, h2, e⟩ | ⟨h1, h2, e⟩ <;> rw [e] <;> clear e
  · have h1' : Op.bytesLess a.toList b.toList = true := by rw [Lib.toList_data, Lib.toList_data]; exact h1
    clear h1
    go_enter Tryz.func58, Tryz.ntmps58
    go_wp2
    go_ret
    exact ⟨rfl, rfl⟩
  · have h1' : Op.bytesLess a.toList b.toList = false := by rw [Lib.toList_data, Lib.toList_data]; exact h1
    have h2' : (a.toList == b.toList) = false := by rw [Lib.toList_data, Lib.toList_data]; exact h2
    clear h1 h2
    go_enter Tryz.func58, Tryz.ntmps58
    go_wp2
    go_ret
    exact ⟨rfl, rfl⟩
  · have h1' : Op.bytesLess a.toList b.toList = false := by rw [Lib.toList_data, Lib.toList_data]; exact h1
    have h2' : (a.toList == b.toList) = true := by rw [Lib.toList_data, Lib.toList_data]; exact h2
    clear h1 h2
    go_enter Tryz.func58, Tryz.ntmps58
    go_wp2
    go_ret
    exact ⟨rfl, rfl⟩
end Go.Proofs.YtlgmanbilaminaaGreatDoor.S3
