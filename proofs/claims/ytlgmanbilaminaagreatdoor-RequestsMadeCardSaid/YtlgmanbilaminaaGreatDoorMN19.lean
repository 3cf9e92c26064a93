/-
  The reference's List, what a part gives: plain mathematics. No program, no conditions. The reference's List: its contract (listM). Conditions: the string has .. Conditions: as stated.
-/
import Derived.Test.YtlgmanbilaminaaGreatDoorMN18
import Derived.StillTailTactics
set_option linter.unusedVariables false
namespace Go.Proofs.YtlgmanbilaminaaGreatDoor.S3
open Go Go.Proofs Go.RowKit Go.Lib
theorem expand_range (a : Str) (n : Nat) (h1 : 1 ≤ n) (h : hasL a = true) : expandL a n = (List.range n).map (nthS a) := by
  obtain ⟨m, rfl⟩ : ∃ m, n = m + 1 := ⟨n - 1, by omega⟩
  unfold expandL
  rw [List.range_succ_eq_map, List.map_cons, nth_zero a h, Nat.add_sub_cancel, List.map_map]
  rfl
theorem cutNone {p : Str} (h : isP p = false) : befP p = p ∧ aftP p = [] := by
  unfold isP befP aftP Lib.cut at *
  by_cases hc : 0 ≤ Lib.index p dots2
  · rw [if_pos hc] at h; simp at h
  · rw [if_neg hc]; exact ⟨rfl, rfl⟩
theorem contains_nil : Lib.contains [] dots2 = false := by decide
theorem part_form {p : Str} {m : Int} (h : p = [] ∨ 1 < cntD p) {n a : Int} (hd : DotsAt p n a) : partM p m = ([], 4) := by
  unfold partM
  rw [if_pos]
  rcases h with h | h
  · exact .inl h
  · obtain ⟨_, k, _, _, _, _, hc⟩ := hd.yes (by omega)
    right
    rw [hc]
    exact decide_eq_true h
theorem partOne {p : Str} {m : Int} (hne : p ≠ []) (h : cntD p = 0) {n a : Int} (hd : DotsAt p n a) : partM p m = if validC p = false then ([], 10) else if m < 1 then ([], 2) else ([p], 0) := by
  have hi := hd.no h
  obtain ⟨hb, ha⟩ := cutNone hi
  unfold partM nP
  rw [hi, hb, ha, contains_nil, if_neg (by rintro (h | h); exact hne h; simp at h)]
  by_cases hv : validC p = false
  · rw [if_pos (.inl hv), if_pos hv]
  · rw [if_neg (by rintro (h | h); exact hv h; simp at h), if_neg hv]
    simp [expandL]
theorem part_two {p : Str} {m : Int} (hne : p ≠ []) (h : cntD p = 1) {n a : Int} (hd : DotsAt p n a) (hm : m ≤ 64) : partM p m = if validC (befP p) = false ∨ validC (aftP p) = false then ([], 10) else if rangeN (befP p) (aftP p) = 0 then ([], 3) else if m < (rangeN (befP p) (aftP p) : Int) then ([], 2) else ((List.range (rangeN (befP p) (aftP p))).map (nthS (befP p)), 0) := by
  obtain ⟨hi, k, _, _, _, _, hc⟩ := hd.yes (by omega)
  rw [h] at hc
  unfold partM nP
  rw [hi, hc, if_neg (by rintro (h | h); exact hne h; simp at h)]
  by_cases hv : validC (befP p) = false ∨ validC (aftP p) = false
  · rw [if_pos hv, if_pos (by rcases hv with h | h; exact .inl h; exact .inr ⟨rfl, h⟩)]
  · rw [if_neg hv, if_neg (by rintro (h | h); exact hv (.inl h); exact hv (.inr h.2))]
    simp only [if_true]
    by_cases h0 : rangeN (befP p) (aftP p) = 0
    · rw [if_pos h0, if_pos h0]
    · rw [if_neg h0, if_neg h0]
      have hh : hasL (befP p) = true := by
        unfold rangeN at h0
        split at h0
        · rename_i h; exact h.1
        · exact absurd rfl h0
      rw [expand_range _ _ (by omega) hh]
theorem list_err {s : Str} {ps : List Str} {p : Str} {rest L : List Str} {e : Int} (hs : s ≠ []) (hsp : splitL s = ps ++ p :: rest) (hg : listGo ps [] = (L, 0)) (hp : partM p (64 - (L.length : Int)) = ([], e)) (he : e ≠ 0) : listM s = ([], e) := by
  have h1 : listGo (splitL s) [] = ([], e) := by
    rw [hsp, listGo_app _ _ _ (by rw [hg]), hg]
    simp [listGo, hp, he]
  unfold listM
  rw [if_neg hs, h1, if_pos he]
theorem list_step {ps : List Str} {p : Str} {L M : List Str} (hg : listGo ps [] = (L, 0)) (hp : partM p (64 - (L.length : Int)) = (M, 0)) : listGo (ps ++ [p]) [] = (L ++ M, 0) := by
  rw [listGo_app _ _ _ (by rw [hg]), hg]
  simp [listGo, hp]
theorem list_end_ {s : Str} {L : List Str} (hs : s ≠ []) (hg : listGo (splitL s) [] = (L, 0)) : listM s = if checkM L ≠ 0 then ([], checkM L) else (L, 0) := by
  unfold listM
  rw [if_neg hs, hg, if_neg (by simp)]
theorem range_iff (A B : Str) : rangeN A B = if hasL A = true ∧ hasL B = true ∧ preS A = preS B ∧ numL A ≤ numL B ∧ wrS (numL B) (lastS A).length = lastS B then numL B - numL A + 1 else 0 := by
  unfold rangeN
  by_cases h : hasL A = true ∧ hasL B = true ∧ preS A = preS B ∧ numL A ≤ numL B ∧ wrS (numL B) (lastS A).length = lastS B
  · obtain ⟨h1, h2, h3, h4, h5⟩ := h
    rw [if_pos ⟨h1, h2, h4, by rw [h5, h3, pre_split]⟩, if_pos ⟨h1, h2, h3, h4, h5⟩]
  · rw [if_neg h, if_neg]
    rintro ⟨h1, h2, h4, h5⟩
    have hp := pre_app (preS A) (wrS (numL B) (lastS A).length) (wr_dgs _ _) (fun q c e => pre_end A q c e)
    have hl := last_app (preS A) (wrS (numL B) (lastS A).length) (wr_dgs _ _) (fun q c e => pre_end A q c e)
    rw [h5] at hp hl
    exact h ⟨h1, h2, hp.symm, h4, hl.symm⟩
theorem has_iff (A : Str) : (0 < (ba (lastS A)).size ∧ hasL A = true) ∨ (¬ 0 < (ba (lastS A)).size ∧ hasL A = false) := by
  unfold hasL
  cases h : lastS A with
  | nil => right; exact ⟨by rw [ba_size]; simp, rfl⟩
  | cons a r => left; exact ⟨by rw [ba_size]; simp, rfl⟩
set_option maxHeartbeats 8000000 in
set_option maxRecDepth 100000 in
theorem rlist_any (s : ByteArray) (hs : s.size ≤ 2097152) (w : World) : Calls Tryz.prog 125 #[.string s] w (ListOut (listM (lst s)) w) := by
  obtain ⟨i9, hi9, hz9, hsi9, hby9⟩ := info_parts infoStr
  by_cases h0 : 0 < s.size
  · obtain ⟨x1, x2, x3, x4⟩ := str_no h0
    have hne := lst_ne h0
    have cS := hid (split_any s hs w)
    obtain ⟨R, hR⟩ : ∃ R, listM (lst s) = R := ⟨_, rfl⟩
    rw [hR]
    have HR := hid hR
    have hmem := splitL_mem (lst s)
    obtain ⟨PS, hPS⟩ : ∃ PS, splitL (lst s) = PS := ⟨_, rfl⟩
    rw [hPS] at cS hmem
    have hlen : (lst s).length = s.size := (Lib.size_eq s).symm
    rw [hlen] at hmem
    have HNE := hid hne
    have HPS := hid hPS
    have HMEM := hid hmem
    clear hR hne hmem hPS hlen
    go_enter Tryz.func125, Tryz.ntmps125
    go_wp2_with fail
    refine cS.out.mono ?_
    rintro e w1 ⟨⟨v, rfl, hrow⟩, hb1⟩
    obtain ⟨A0, c, rfl, hc1, hc2, hin⟩ := hrow.strsIn
    have HB1 := hid hb1
    have HIN := hid (hin.mono (P' := fun b => b < w1.heap.size) (fun b h => h.2))
    have hws := hb1.size
    clear hrow hin hb1 cS
    go_wp2
    go_loopw [5, 6] (fun ov iv wr => ∃ (i : Nat) (L : List Str), iv = .int .i64 (i : Int) ∧ i ≤ PS.length ∧ StrRow wr w1.heap.size ov L ∧ L.length ≤ 64 ∧ Hid (listGo (PS.take i) [] = (L, 0)) ∧ Hid (∀ c ∈ L, validC c = true) ∧ Hid (Below w1.heap.size w1 wr)) (fun _ iv _ => PS.length - (RowKit.intOf iv).toNat)
    case atStart => exact ⟨0, [], rfl, by omega, World.ownsRow_nil _ _ _ _, by simp, hid rfl, hid (fun c hc => by cases hc), hid (Below.refl _ _)⟩
    case round =>
      obtain ⟨i, L, rfl, hi, hrow, hL64, hgo, hval, hB⟩ := hrel
      obtain ⟨AL, cL, rfl, hcl1, hcl2, hinL⟩ := hrow.strsIn
      have HRow := hid hrow
      have HINL := hid hinL
      clear hrow hinL
      obtain ⟨wo, hwo⟩ : ∃ wo, wo = wr := ⟨_, rfl⟩
      subst hwo
      by_cases hlt : i < PS.length
      · have hltz : (i : Int) < (PS.length : Int) := by omega
        obtain ⟨b, off, rfl, hbl, hcp⟩ := (HIN.out.kept (w' := wo) (fun b hb => hB.out.block b hb)).at_ hlt
        obtain ⟨p, hp⟩ : ∃ p, PS[i] = p := ⟨_, rfl⟩
        rw [hp] at hcp
        have hsp : PS = PS.take i ++ p :: PS.drop (i + 1) := by
          rw [← hp, ← List.drop_eq_getElem_cons hlt, List.take_append_drop]
        have htk : PS.take (i + 1) = PS.take i ++ [p] := by rw [List.take_succ_eq_append_getElem hlt, hp]
        have hpm : p ∈ PS := by rw [← hp]; exact List.getElem_mem hlt
        have hpl := HMEM.out p hpm
        have herr : ∀ e : Int, partM p (64 - (L.length : Int)) = ([], e) → e ≠ 0 → R = ([], e) := fun e h1 h2 => by
          rw [← HR.out]
          exact list_err HNE.out (by rw [HPS.out]; exact hsp) hgo.out h1 h2
        have hstep : ∀ M, partM p (64 - (L.length : Int)) = (M, 0) → listGo (PS.take (i + 1)) [] = (L ++ M, 0) := fun M h => by
          rw [htk]
          exact list_step hgo.out h
        obtain ⟨P, hP⟩ : ∃ P : ByteArray, ba p = P := ⟨_, rfl⟩
        have lP : lst P = p := by rw [← hP]; rfl
        have hPs : P.size = p.length := by rw [← hP]; rfl
        have hcp' : wo.cell? ⟨b, off + i, none⟩ = some (.string P) := by rw [← hP]; exact hcp
        have cD := hid (dots_any P (by omega) wo)
        have HERR := hid herr
        have HSTEP := hid hstep
        have LP := hid lP
        clear hcp hp hsp htk hpm herr hstep hP lP hgo
        go_wp2_with fail
        refine cD.out.mono ?_
        rintro e w2 ⟨⟨n, a, rfl, hd⟩, hw2⟩
        obtain rfl : wo = w2 := hw2.symm
        rw [LP.out] at hd
        have HD := hid hd
        have hn := hd.n
        clear hd cD hcp'
        by_cases hp0 : 0 < P.size
        · obtain ⟨y1, y2, y3, y4⟩ := str_no hp0
          have hpn : p ≠ [] := by intro e; have h := hPs; rw [e, List.length_nil] at h; omega
          have HPN := hid hpn
          clear hpn
          rcases (show 1 < cntD p ∨ cntD p = 0 ∨ cntD p = 1 by omega) with hc | hc | hc
          · obtain rfl := HERR.out 4 (part_form (.inr hc) HD.out) (by omega)
            have hn1 : (1 : Int) < n := by omega
            clear hn hc
            go_wp2
            go_ret2
            exact ⟨⟨_, rfl, World.ownsRow_nil _ _ _ _⟩, HB1.out.trans (hB.out.mono hws)⟩
          · have hpo := partOne (m := 64 - (L.length : Int)) HPN.out hc HD.out
            obtain rfl : n = 0 := by omega
            have cV := refValid_any P
            rw [show P.data.toList = p from LP.out] at cV
            clear hn hc
            cases hv : validC p with
            | false =>
              rw [if_pos hv] at hpo
              obtain rfl := HERR.out 10 hpo (by omega)
              rw [hv] at cV
              have CV := hid cV
              clear hpo cV hv
              go_wp2_with fail
              refine (CV.out _).mono ?_
              rintro e w3 ⟨rfl, rfl⟩
              go_wp2
              go_ret2
              exact ⟨⟨_, rfl, World.ownsRow_nil _ _ _ _⟩, HB1.out.trans (hB.out.mono hws)⟩
            | true =>
              rw [if_neg (by rw [hv]; simp)] at hpo
              rw [hv] at cV
              have CV := hid cV
              have HPO := hid hpo
              have HC3 : Hid (L.length + 1 ≤ maxLen) := by unfold maxLen; exact hid (by omega)
              have HC4 : Hid ((L.length + 1) * 16 ≤ 140737488355328) := hid (by omega)
              have HC5 : Hid (∀ o : Obj, w1.heap.size ≤ (wo.alloc o).heap.size) := hid (fun o => by have := hB.out.size; simp; omega)
              have hval2 : Hid (∀ c ∈ L ++ [p], validC c = true) := hid (fun c hc => by
                rcases List.mem_append.1 hc with hc | hc
                · exact hval.out c hc
                · obtain rfl : c = p := by simpa using hc
                  exact hv)
              clear hpo cV hv
              go_wp2_with fail
              refine (CV.out _).mono ?_
              rintro e w3 ⟨rfl, rfl⟩
              go_wp2_with (at_builtin; refine wpList_append_own _ rfl _ _ 40 rfl w1.heap.size 9 i9 (.string ⟨#[]⟩) 1 16 Tryz.underlying40 hi9 hz9 hsi9 hby9 rfl (by decide) _ L.length (strVals L) rfl (World.ownsRow.alloc HRow.out _) ⟨wo.heap.size, 0, none⟩ 1 1 [.string P] rfl rfl (one_new _ _ _) (one_str _) HC3.out HC4.out (HC5.out _) ?_)
              intro v' w6 hown' hgrow _
              have hg' := grownBy_of_alloc hgrow
              have hb56 : Below w1.heap.size wo w6 := (Below.refl _ wo).grown hg' hB.out.size (fun k hk => (World.ownsRow.lt HRow.out k hk).1)
              have HB6 := hid (hB.out.trans hb56)
              obtain ⟨A6, c6, hv6⟩ := row_slice hown'
              subst hv6
              have HRow6 := hid hown'
              clear hown' hgrow hg' hb56
              by_cases h64 : L.length = 64
              · obtain rfl := HERR.out 2 (by rw [HPO.out, if_pos (by omega)]) (by omega)
                have hgt : (64 : Int) < (L.length : Int) + 1 := by omega
                go_wp2
                go_ret2
                exact ⟨⟨_, rfl, World.ownsRow_nil _ _ _ _⟩, HB1.out.trans (HB6.out.mono hws)⟩
              · have hgt : ¬ (64 : Int) < (L.length : Int) + 1 := by omega
                have hnx := hid (HSTEP.out [p] (by rw [HPO.out, if_neg (by omega)]))
                go_wp2
                go_roundw
                case rel =>
                  refine ⟨i + 1, L ++ [p], by go_num, by omega, ?_, by simp; omega, hnx, hval2, HB6⟩
                  unfold StrRow
                  rw [strVals_app, List.length_append]
                  have e : strVals [p] = [.string P] := by show [strV p] = _; rw [← LP.out, strV_lst]
                  rw [e]
                  exact HRow6.out
                case measure => simp [RowKit.intOf]; omega
          · obtain ⟨_, k, rfl, hbe, haf, hk2, _⟩ := HD.out.yes (by omega)
            have hpt := part_two (m := 64 - (L.length : Int)) HPN.out hc HD.out (by omega)
            obtain rfl : n = 1 := by omega
            rw [hbe, haf] at hpt
            have lA : lst (P.extract 0 k) = p.take k := by rw [lst_extract, LP.out]; simp
            have lB : lst (P.extract (k + 2) P.size) = p.drop (k + 2) := by rw [lst_extract, LP.out, List.take_of_length_le (by omega)]
            have hkz : (k : Int) ≤ (P.size : Int) := by omega
            have hkz2 : (k : Int) + 2 ≤ (P.size : Int) := by omega
            have ek : IntKind.i64.wrap ((k : Int) + 2) = (k : Int) + 2 := IntWalk.i64_in _ (by omega)
            obtain ⟨FA, hFA⟩ : ∃ FA, P.extract 0 k = FA := ⟨_, rfl⟩
            obtain ⟨FB, hFB⟩ : ∃ FB, P.extract (k + 2) P.size = FB := ⟨_, rfl⟩
            rw [hFA] at lA
            rw [hFB] at lB
            obtain ⟨AX, hAX⟩ : ∃ AX, p.take k = AX := ⟨_, rfl⟩
            obtain ⟨BX, hBX⟩ : ∃ BX, p.drop (k + 2) = BX := ⟨_, rfl⟩
            rw [hAX] at lA hpt
            rw [hBX] at lB hpt
            have cVA := hid (refValid_any FA)
            have cVB := hid (refValid_any FB)
            have cVA' := cVA.out
            have cVB' := cVB.out
            rw [show FA.data.toList = AX from lA] at cVA'
            rw [show FB.data.toList = BX from lB] at cVB'
            have LA := hid lA
            have LB := hid lB
            have HPT := hid hpt
            clear hPs hn hc hbe haf hk2 hpt lA lB hAX hBX cVA cVB
            go_wp2_with fail
            go_quiet (fail)
            have HBq : Hid (Below w1.heap.size w1 (wo.drewN nq)) := hid (below_drewN hB.out nq)
            have HRq : Hid (StrRow (wo.drewN nq) w1.heap.size _ L) := hid (row_under HRow.out (below_drewN (Below.refl _ _) nq))
            generalize wo.drewN nq = wq at HBq HRq ⊢
            rw [hFB]
            clear hFA hFB hkz hkz2 ek
            cases hva : validC AX with
            | false =>
              obtain rfl := HERR.out 10 (by rw [HPT.out, if_pos (.inl hva)]) (by omega)
              rw [hva] at cVA'
              have CV := hid cVA'
              clear cVA' cVB' hva
              go_wp2_with fail
              refine (CV.out _).mono ?_
              rintro e w3 ⟨rfl, rfl⟩
              go_wp2
              go_ret2
              exact ⟨⟨_, rfl, World.ownsRow_nil _ _ _ _⟩, HB1.out.trans (HBq.out.mono hws)⟩
            | true =>
              rw [hva] at cVA'
              have CVA := hid cVA'
              cases hvb : validC BX with
              | false =>
                obtain rfl := HERR.out 10 (by rw [HPT.out, if_pos (.inr hvb)]) (by omega)
                rw [hvb] at cVB'
                have CVB := hid cVB'
                clear cVA' cVB' hva hvb
                go_wp2_with fail
                refine (CVA.out _).mono ?_
                rintro e w3 ⟨rfl, rfl⟩
                go_wp2_with fail
                refine (CVB.out _).mono ?_
                rintro e w3 ⟨rfl, rfl⟩
                go_wp2
                go_ret2
                exact ⟨⟨_, rfl, World.ownsRow_nil _ _ _ _⟩, HB1.out.trans (HBq.out.mono hws)⟩
              | true =>
                rw [hvb] at cVB'
                have CVB := hid cVB'
                have hA16 : FA.size ≤ 16 := by rw [Lib.size_eq]; have h := LA.out; rw [show FA.data.toList = AX from h]; exact validC_len hva
                have hB16 : FB.size ≤ 16 := by rw [Lib.size_eq]; have h := LB.out; rw [show FB.data.toList = BX from h]; exact validC_len hvb
                have HPT2 : Hid (partM p (64 - (L.length : Int)) = if rangeN AX BX = 0 then ([], 3) else if 64 - (L.length : Int) < (rangeN AX BX : Int) then ([], 2) else ((List.range (rangeN AX BX)).map (nthS AX), 0)) := hid (by rw [HPT.out, if_neg (by rw [hva, hvb]; simp)])
                have hnv := hid (fun n j hn hj => nth_valid (a := AX) (b := BX) (n := n) (j := j) hva hvb hn hj)
                have cTA := tail_any FA hA16
                have cTB := tail_any FB hB16
                rw [show lst FA = AX from LA.out] at cTA
                rw [show lst FB = BX from LB.out] at cTB
                obtain ⟨la1, la2⟩ := last_len AX (validC_len hva)
                obtain ⟨lb1, lb2⟩ := last_len BX (validC_len hvb)
                have cNA := number_any (ba (lastS AX)) la1 (last_dgs AX)
                have cNB := number_any (ba (lastS BX)) lb1 (last_dgs BX)
                rw [show numN (lst (ba (lastS AX))) = numL AX from rfl] at cNA
                rw [show numN (lst (ba (lastS BX))) = numL BX from rfl] at cNB
                have hNA := numL_small AX (validC_len hva)
                have hNB := numL_small BX (validC_len hvb)
                have cWR := fun w => written_any (numL BX) (lastS AX).length (by omega) la1 w
                have hrg := range_iff AX BX
                have hsa := has_iff AX
                have hsb := has_iff BX
                have hsz : (ba (lastS AX)).size = (lastS AX).length := rfl
                have hpq := str_eq (a := ba (preS AX)) (b := ba (preS BX))
                have hpw := str_eq (a := ba (wrS (numL BX) (lastS AX).length)) (b := ba (lastS BX))
                rw [show (lst (ba (preS AX)) = lst (ba (preS BX))) = (preS AX = preS BX) from rfl] at hpq
                rw [show (lst (ba (wrS (numL BX) (lastS AX).length)) = lst (ba (lastS BX))) = (wrS (numL BX) (lastS AX).length = lastS BX) from rfl] at hpw
                have cWK := hid (fun (j : Nat) (h : j ≤ 64) w => written_any (numL AX + j) (lastS AX).length (by omega) la1 w)
                have hnth := hid (fun j => show nthS AX j = preS AX ++ wrS (numL AX + j) (lastS AX).length from rfl)
                have lp1 : (ba (preS AX)).size ≤ 16 := la2
                obtain ⟨XA, hXA⟩ : ∃ XA, ba (preS AX) = XA := ⟨_, rfl⟩
                obtain ⟨UA, hUA⟩ : ∃ UA, ba (lastS AX) = UA := ⟨_, rfl⟩
                obtain ⟨YB, hYB⟩ : ∃ YB, ba (preS BX) = YB := ⟨_, rfl⟩
                obtain ⟨VB, hVB⟩ : ∃ VB, ba (lastS BX) = VB := ⟨_, rfl⟩
                obtain ⟨NA, hNAe⟩ : ∃ NA, numL AX = NA := ⟨_, rfl⟩
                obtain ⟨NB, hNBe⟩ : ∃ NB, numL BX = NB := ⟨_, rfl⟩
                obtain ⟨WD, hWD⟩ : ∃ WD, (lastS AX).length = WD := ⟨_, rfl⟩
                rw [hNBe, hWD] at hpw cWR
                obtain ⟨WR, hWR⟩ : ∃ WR, ba (wrS NB WD) = WR := ⟨_, rfl⟩
                rw [hXA] at cTA hpq lp1
                rw [hUA] at cTA cNA hsa hsz
                rw [hYB] at cTB hpq
                rw [hVB] at cTB cNB hsb hpw
                rw [hNAe] at cNA hNA hrg cWK hnth
                rw [hNBe] at cNB hNB hrg
                rw [hWD] at hrg hsz la1 cWK hnth
                rw [hWR] at cWR hpw
                have CTA := hid cTA
                have CTB := hid cTB
                have CNA := hid cNA
                have CNB := hid cNB
                have CWR := hid cWR
                have HRG := hid hrg
                have HXA := hid hXA
                have lXA : lst XA = preS AX := by rw [← hXA]; rfl
                have lYB : lst YB = preS BX := by rw [← hYB]; rfl
                have lWR : lst WR = wrS NB WD := by rw [← hWR]; rfl
                have lVB : lst VB = lastS BX := by rw [← hVB]; rfl
                clear cTA cTB cNA cNB cWR hrg cVA' cVB' hva hvb lb1 lb2 la2 hXA hUA hYB hVB hNAe hNBe hWD hWR
                go_wp2_with fail
                refine (CVA.out _).mono ?_
                rintro e w3 ⟨rfl, rfl⟩
                go_wp2_with fail
                refine (CVB.out _).mono ?_
                rintro e w3 ⟨rfl, rfl⟩
                rcases hsa with ⟨ua, ha⟩ | ⟨ua, ha⟩
                · obtain ⟨u1, u2, u3, u4⟩ := str_no ua
                  rcases hsb with ⟨ub, hb⟩ | ⟨ub, hb⟩
                  · obtain ⟨v1, v2, v3, v4⟩ := str_no ub
                    rcases hpq with ⟨pe, p1, p2⟩ | ⟨pe, p1, p2⟩
                    · by_cases hnn : NB < NA
                      · have hnz : (NB : Int) < (NA : Int) := by omega
                        obtain rfl := HERR.out 3 (by rw [HPT2.out, if_pos (show rangeN AX BX = 0 by rw [HRG.out]; exact if_neg (by rintro ⟨h1, h2, h3, h4, h5⟩; omega))]) (by omega)
                        clear pe ha hb
                        go_wp2_with fail
                        refine (CTA.out _).mono ?_
                        rintro e wt ⟨rfl, qt, hwt⟩
                        have HBt : Hid (Below w1.heap.size w1 wt) := hid (by rw [hwt]; exact below_drewN HBq.out qt)
                        have HRt : Hid (StrRow wt w1.heap.size _ L) := hid (by rw [hwt]; exact row_under HRq.out (below_drewN (Below.refl _ _) qt))
                        clear hwt
                        go_wp2_with fail
                        refine (CTB.out _).mono ?_
                        rintro e wu ⟨rfl, qu, hwu⟩
                        have HBu : Hid (Below w1.heap.size w1 wu) := hid (by rw [hwu]; exact below_drewN HBt.out qu)
                        have HRu : Hid (StrRow wu w1.heap.size _ L) := hid (by rw [hwu]; exact row_under HRt.out (below_drewN (Below.refl _ _) qu))
                        clear hwu
                        go_wp2_with fail
                        refine (CNA.out _).mono ?_
                        rintro e wn ⟨rfl, rfl⟩
                        go_wp2_with fail
                        refine (CNB.out _).mono ?_
                        rintro e wn ⟨rfl, rfl⟩
                        go_wp2
                        go_ret2
                        exact ⟨⟨_, rfl, World.ownsRow_nil _ _ _ _⟩, HB1.out.trans (HBu.out.mono hws)⟩
                      · have hnz : ¬ (NB : Int) < (NA : Int) := by omega
                        rcases hpw with ⟨we, q1, q2⟩ | ⟨we, q1, q2⟩
                        · have hrn : rangeN AX BX = NB - NA + 1 := by rw [HRG.out, if_pos ⟨ha, hb, pe, by omega, we⟩]
                          have hPT3 := HPT2.out
                          rw [hrn, if_neg (by omega)] at hPT3
                          have HPT3 := hid hPT3
                          have HNV : Hid (∀ j, j < NB - NA + 1 → validC (nthS AX j) = true) := hid (fun j hj => hnv.out _ j hrn hj)
                          have hdw : IntKind.i64.wrap ((NB : Int) - (NA : Int)) = (NB : Int) - (NA : Int) := IntWalk.i64_in _ (by omega)
                          clear pe ha hb we hrn hPT3 hnv
                          by_cases hbig : 64 ≤ NB - NA
                          · have hbz : (64 : Int) ≤ (NB : Int) - (NA : Int) := by omega
                            obtain rfl := HERR.out 2 (by rw [HPT3.out, if_pos (by omega)]) (by omega)
                            go_wp2_with fail
                            refine (CTA.out _).mono ?_
                            rintro e wt ⟨rfl, qt, hwt⟩
                            have HBt : Hid (Below w1.heap.size w1 wt) := hid (by rw [hwt]; exact below_drewN HBq.out qt)
                            have HRt : Hid (StrRow wt w1.heap.size _ L) := hid (by rw [hwt]; exact row_under HRq.out (below_drewN (Below.refl _ _) qt))
                            clear hwt
                            go_wp2_with fail
                            refine (CTB.out _).mono ?_
                            rintro e wu ⟨rfl, qu, hwu⟩
                            have HBu : Hid (Below w1.heap.size w1 wu) := hid (by rw [hwu]; exact below_drewN HBt.out qu)
                            have HRu : Hid (StrRow wu w1.heap.size _ L) := hid (by rw [hwu]; exact row_under HRt.out (below_drewN (Below.refl _ _) qu))
                            clear hwu
                            go_wp2_with fail
                            refine (CNA.out _).mono ?_
                            rintro e wn ⟨rfl, rfl⟩
                            go_wp2_with fail
                            refine (CNB.out _).mono ?_
                            rintro e wn ⟨rfl, rfl⟩
                            go_wp2_with fail
                            refine (CNB.out _).mono ?_
                            rintro e wn ⟨rfl, rfl⟩
                            go_wp2_with fail
                            refine (CWR.out _).mono ?_
                            rintro e wv ⟨rfl, hbv⟩
                            have HBv := hid (HBu.out.trans (hbv.mono HBu.out.size))
                            have HRv : Hid (StrRow wv w1.heap.size _ L) := hid (row_under HRu.out hbv)
                            clear hbv
                            go_wp2_with fail
                            refine (CNB.out _).mono ?_
                            rintro e wn ⟨rfl, rfl⟩
                            go_wp2_with fail
                            refine (CNA.out _).mono ?_
                            rintro e wn ⟨rfl, rfl⟩
                            go_wp2
                            go_ret2
                            exact ⟨⟨_, rfl, World.ownsRow_nil _ _ _ _⟩, HB1.out.trans (HBv.out.mono hws)⟩
                          · have hbz : ¬ (64 : Int) ≤ (NB : Int) - (NA : Int) := by omega
                            go_wp2_with fail
                            refine (CTA.out _).mono ?_
                            rintro e wt ⟨rfl, qt, hwt⟩
                            have HBt : Hid (Below w1.heap.size w1 wt) := hid (by rw [hwt]; exact below_drewN HBq.out qt)
                            have HRt : Hid (StrRow wt w1.heap.size _ L) := hid (by rw [hwt]; exact row_under HRq.out (below_drewN (Below.refl _ _) qt))
                            clear hwt
                            go_wp2_with fail
                            refine (CTB.out _).mono ?_
                            rintro e wu ⟨rfl, qu, hwu⟩
                            have HBu : Hid (Below w1.heap.size w1 wu) := hid (by rw [hwu]; exact below_drewN HBt.out qu)
                            have HRu : Hid (StrRow wu w1.heap.size _ L) := hid (by rw [hwu]; exact row_under HRt.out (below_drewN (Below.refl _ _) qu))
                            clear hwu
                            go_wp2_with fail
                            refine (CNA.out _).mono ?_
                            rintro e wn ⟨rfl, rfl⟩
                            go_wp2_with fail
                            refine (CNB.out _).mono ?_
                            rintro e wn ⟨rfl, rfl⟩
                            go_wp2_with fail
                            refine (CNB.out _).mono ?_
                            rintro e wn ⟨rfl, rfl⟩
                            go_wp2_with fail
                            refine (CWR.out _).mono ?_
                            rintro e wv ⟨rfl, hbv⟩
                            have HBv := hid (HBu.out.trans (hbv.mono HBu.out.size))
                            have HRv : Hid (StrRow wv w1.heap.size _ L) := hid (row_under HRu.out hbv)
                            clear hbv
                            go_wp2_with fail
                            refine (CNB.out _).mono ?_
                            rintro e wn ⟨rfl, rfl⟩
                            go_wp2_with fail
                            refine (CNA.out _).mono ?_
                            rintro e wn ⟨rfl, rfl⟩
                            go_wp2_with fail
                            refine (CNA.out _).mono ?_
                            rintro e wn ⟨rfl, rfl⟩
                            go_wp2_with fail
                            go_loopw [5, 16] (fun ov kv wk => ∃ (j : Nat) (Lk : List Str), kv = .int .i64 ((NA + j : Nat) : Int) ∧ j ≤ NB - NA + 1 ∧ StrRow wk w1.heap.size ov Lk ∧ Hid (Lk.length = L.length + j) ∧ Hid (Lk = L ++ (List.range j).map (nthS AX)) ∧ Hid (Below w1.heap.size w1 wk)) (fun _ kv _ => NB + 1 - (RowKit.intOf kv).toNat)
                            case atStart => exact ⟨0, L, rfl, by omega, HRv.out, hid rfl, hid (by simp), HBv⟩
                            case round =>
                              obtain ⟨j, Lk, rfl, hj, hrow, hLk, hLe, hBk⟩ := hrel
                              obtain ⟨AK, cK, rfl, _, _, _⟩ := hrow.strsIn
                              have HRow2 := hid hrow
                              clear hrow
                              by_cases hle : NA + j ≤ NB
                              · have cW := cWK.out j (by omega)
                                have hv := HNV.out j (by omega)
                                have hn0 := hnth.out j
                                have hnx : (NA + j) + 1 = NA + (j + 1) := by omega
                                obtain ⟨kk, hkk⟩ : ∃ kk, NA + j = kk := ⟨_, rfl⟩
                                rw [hkk] at cW hn0 hle hnx ⊢
                                have hkb : kk < 10000000000000000 := by omega
                                have hlez : (kk : Int) ≤ (NB : Int) := by omega
                                have HNXk := hid hnx
                                have HKK := hid hkk
                                obtain ⟨EL, hEL⟩ : ∃ EL, nthS AX j = EL := ⟨_, rfl⟩
                                have hLn : Hid (Lk ++ [EL] = L ++ (List.range (j + 1)).map (nthS AX)) := hid (by rw [hLe.out, List.range_succ, List.map_append, List.append_assoc, ← hEL]; rfl)
                                rw [hEL] at hv hn0
                                have hE16 := validC_len hv
                                have hsum : XA.size + (ba (wrS kk WD)).size ≤ 16 := by
                                  rw [← HXA.out]
                                  have h := congrArg List.length hn0
                                  rw [List.length_append] at h
                                  show (preS AX).length + (wrS kk WD).length ≤ 16
                                  omega
                                have hadd : ∀ w, (Op.stringOp .add XA (ba (wrS kk WD))).run Tryz.prog w = .ok (.string (ba EL)) w := fun w => by
                                  rw [run_string_add_sum (w := w) _ _ (by omega), ← HXA.out, hn0, ba_app]
                                obtain ⟨WK, hWK⟩ : ∃ WK, ba (wrS kk WD) = WK := ⟨_, rfl⟩
                                rw [hWK] at cW hadd
                                have hsE : strVals [EL] = [.string (ba EL)] := rfl
                                obtain ⟨EV, hEV⟩ : ∃ EV, ba EL = EV := ⟨_, rfl⟩
                                rw [hEV] at hadd hsE
                                have HSE := hid hsE
                                have CW := hid cW
                                have HC3 : Hid (Lk.length + 1 ≤ maxLen) := by unfold maxLen; exact hid (by rw [hLk.out]; omega)
                                have HC4 : Hid ((Lk.length + 1) * 16 ≤ 140737488355328) := hid (by rw [hLk.out]; omega)
                                clear cW hv hn0 hnx hkk hEL hE16 hsum hWK hsE hEV hle
                                go_wp2_with fail
                                refine (CNB.out _).mono ?_
                                rintro e wn ⟨rfl, rfl⟩
                                go_wp2_with fail
                                refine (CW.out _).mono ?_
                                rintro e w6 ⟨rfl, hb6⟩
                                have HB6 := hid (hBk.out.trans (hb6.mono hBk.out.size))
                                have HR6 : Hid (StrRow w6 w1.heap.size _ Lk) := hid (row_under HRow2.out hb6)
                                have HC5 : Hid (∀ o : Obj, w1.heap.size ≤ (w6.alloc o).heap.size) := hid (fun o => by have := HB6.out.size; simp; omega)
                                clear hb6
                                go_wp2_with (at_builtin; refine wpList_append_own _ rfl _ _ 40 rfl w1.heap.size 9 i9 (.string ⟨#[]⟩) 1 16 Tryz.underlying40 hi9 hz9 hsi9 hby9 rfl (by decide) _ Lk.length (strVals Lk) rfl (World.ownsRow.alloc HR6.out _) ⟨w6.heap.size, 0, none⟩ 1 1 [.string EV] rfl rfl (one_new _ _ _) (one_str _) HC3.out HC4.out (HC5.out _) ?_)
                                intro v' w7 hown' hgrow _
                                have hg' := grownBy_of_alloc hgrow
                                have hb67 : Below w1.heap.size w6 w7 := (Below.refl _ w6).grown hg' HB6.out.size (fun k hk => (World.ownsRow.lt HR6.out k hk).1)
                                have HB7 := hid (HB6.out.trans hb67)
                                obtain ⟨A7, c7, hv7⟩ := row_slice hown'
                                subst hv7
                                have HRow7 := hid hown'
                                clear hown' hgrow hg' hb67
                                have hiw : IntKind.i64.wrap ((kk : Int) + 1) = (kk : Int) + 1 := IntWalk.i64_in _ (by omega)
                                go_wp2
                                go_roundw
                                case rel =>
                                  refine ⟨j + 1, Lk ++ [EL], ?_, by have := HKK.out; omega, ?_, hid (by rw [List.length_append, hLk.out]; rfl), hLn, HB7⟩
                                  · rw [← HNXk.out]; push_cast; rfl
                                  · unfold StrRow
                                    rw [strVals_app, List.length_append, HSE.out]
                                    exact HRow7.out
                                case measure => simp [RowKit.intOf]; omega
                              · obtain rfl : j = NB - NA + 1 := by omega
                                have hkz : ¬ ((NA + (NB - NA + 1) : Nat) : Int) ≤ (NB : Int) := by omega
                                obtain ⟨kk, hkk⟩ : ∃ kk, NA + (NB - NA + 1) = kk := ⟨_, rfl⟩
                                rw [hkk] at hkz ⊢
                                have hkz2 : (NB : Int) < (kk : Int) := by omega
                                clear hkk hle hj
                                by_cases h64 : 64 < Lk.length
                                · have h64z : (64 : Int) < (Lk.length : Int) := by omega
                                  obtain rfl := HERR.out 2 (by rw [HPT3.out, if_pos (by have := hLk.out; omega)]) (by omega)
                                  go_wp2_with fail
                                  refine (CNB.out _).mono ?_
                                  rintro e wn ⟨rfl, rfl⟩
                                  go_wp2
                                  go_ret2
                                  exact ⟨⟨_, rfl, World.ownsRow_nil _ _ _ _⟩, HB1.out.trans (hBk.out.mono hws)⟩
                                · have h64z : ¬ (64 : Int) < (Lk.length : Int) := by omega
                                  have hnx := hid (HSTEP.out _ (by rw [HPT3.out, if_neg (by have := hLk.out; omega)]))
                                  rw [← hLe.out] at hnx
                                  have hval2 : Hid (∀ c ∈ Lk, validC c = true) := hid (fun c hc => by
                                    rw [hLe.out] at hc
                                    rcases List.mem_append.1 hc with hc | hc
                                    · exact hval.out c hc
                                    · obtain ⟨j, hj, rfl⟩ := List.mem_map.1 hc
                                      exact HNV.out j (List.mem_range.1 hj))
                                  go_wp2_with fail
                                  refine (CNB.out _).mono ?_
                                  rintro e wn ⟨rfl, rfl⟩
                                  go_wp2
                                  go_roundw
                                  case rel => exact ⟨i + 1, Lk, by go_num, by omega, HRow2.out, by omega, hnx, hval2, hBk⟩
                                  case measure => simp [RowKit.intOf]; omega
                        · obtain rfl := HERR.out 3 (by rw [HPT2.out, if_pos (show rangeN AX BX = 0 by rw [HRG.out]; exact if_neg (by rintro ⟨h1, h2, h3, h4, h5⟩; exact we (by rw [lWR, lVB]; exact h5)))]) (by omega)
                          clear pe ha hb we
                          go_wp2_with fail
                          refine (CTA.out _).mono ?_
                          rintro e wt ⟨rfl, qt, hwt⟩
                          have HBt : Hid (Below w1.heap.size w1 wt) := hid (by rw [hwt]; exact below_drewN HBq.out qt)
                          have HRt : Hid (StrRow wt w1.heap.size _ L) := hid (by rw [hwt]; exact row_under HRq.out (below_drewN (Below.refl _ _) qt))
                          clear hwt
                          go_wp2_with fail
                          refine (CTB.out _).mono ?_
                          rintro e wu ⟨rfl, qu, hwu⟩
                          have HBu : Hid (Below w1.heap.size w1 wu) := hid (by rw [hwu]; exact below_drewN HBt.out qu)
                          have HRu : Hid (StrRow wu w1.heap.size _ L) := hid (by rw [hwu]; exact row_under HRt.out (below_drewN (Below.refl _ _) qu))
                          clear hwu
                          go_wp2_with fail
                          refine (CNA.out _).mono ?_
                          rintro e wn ⟨rfl, rfl⟩
                          go_wp2_with fail
                          refine (CNB.out _).mono ?_
                          rintro e wn ⟨rfl, rfl⟩
                          go_wp2_with fail
                          refine (CNB.out _).mono ?_
                          rintro e wn ⟨rfl, rfl⟩
                          go_wp2_with fail
                          refine (CWR.out _).mono ?_
                          rintro e wv ⟨rfl, hbv⟩
                          have HBv := hid (HBu.out.trans (hbv.mono HBu.out.size))
                          have HRv : Hid (StrRow wv w1.heap.size _ L) := hid (row_under HRu.out hbv)
                          clear hbv
                          go_wp2
                          go_ret2
                          exact ⟨⟨_, rfl, World.ownsRow_nil _ _ _ _⟩, HB1.out.trans (HBv.out.mono hws)⟩
                    · obtain rfl := HERR.out 3 (by rw [HPT2.out, if_pos (show rangeN AX BX = 0 by rw [HRG.out]; exact if_neg (by rintro ⟨h1, h2, h3, h4, h5⟩; exact pe (by rw [lXA, lYB]; exact h3)))]) (by omega)
                      clear pe ha hb
                      go_wp2_with fail
                      refine (CTA.out _).mono ?_
                      rintro e wt ⟨rfl, qt, hwt⟩
                      have HBt : Hid (Below w1.heap.size w1 wt) := hid (by rw [hwt]; exact below_drewN HBq.out qt)
                      have HRt : Hid (StrRow wt w1.heap.size _ L) := hid (by rw [hwt]; exact row_under HRq.out (below_drewN (Below.refl _ _) qt))
                      clear hwt
                      go_wp2_with fail
                      refine (CTB.out _).mono ?_
                      rintro e wu ⟨rfl, qu, hwu⟩
                      have HBu : Hid (Below w1.heap.size w1 wu) := hid (by rw [hwu]; exact below_drewN HBt.out qu)
                      have HRu : Hid (StrRow wu w1.heap.size _ L) := hid (by rw [hwu]; exact row_under HRt.out (below_drewN (Below.refl _ _) qu))
                      clear hwu
                      go_wp2
                      go_ret2
                      exact ⟨⟨_, rfl, World.ownsRow_nil _ _ _ _⟩, HB1.out.trans (HBu.out.mono hws)⟩
                  · obtain ⟨v1, v2, v3, v4⟩ := str_yes ub
                    obtain rfl := HERR.out 3 (by rw [HPT2.out, if_pos (show rangeN AX BX = 0 by rw [HRG.out]; exact if_neg (by rintro ⟨h1, h2, h3, h4, h5⟩; rw [hb] at h2; cases h2))]) (by omega)
                    clear ha hb
                    go_wp2_with fail
                    refine (CTA.out _).mono ?_
                    rintro e wt ⟨rfl, qt, hwt⟩
                    have HBt : Hid (Below w1.heap.size w1 wt) := hid (by rw [hwt]; exact below_drewN HBq.out qt)
                    have HRt : Hid (StrRow wt w1.heap.size _ L) := hid (by rw [hwt]; exact row_under HRq.out (below_drewN (Below.refl _ _) qt))
                    clear hwt
                    go_wp2_with fail
                    refine (CTB.out _).mono ?_
                    rintro e wu ⟨rfl, qu, hwu⟩
                    have HBu : Hid (Below w1.heap.size w1 wu) := hid (by rw [hwu]; exact below_drewN HBt.out qu)
                    have HRu : Hid (StrRow wu w1.heap.size _ L) := hid (by rw [hwu]; exact row_under HRt.out (below_drewN (Below.refl _ _) qu))
                    clear hwu
                    go_wp2
                    go_ret2
                    exact ⟨⟨_, rfl, World.ownsRow_nil _ _ _ _⟩, HB1.out.trans (HBu.out.mono hws)⟩
                · obtain ⟨u1, u2, u3, u4⟩ := str_yes ua
                  obtain rfl := HERR.out 3 (by rw [HPT2.out, if_pos (show rangeN AX BX = 0 by rw [HRG.out]; exact if_neg (by rintro ⟨h1, h2, h3, h4, h5⟩; rw [ha] at h1; cases h1))]) (by omega)
                  clear ha
                  go_wp2_with fail
                  refine (CTA.out _).mono ?_
                  rintro e wt ⟨rfl, qt, hwt⟩
                  have HBt : Hid (Below w1.heap.size w1 wt) := hid (by rw [hwt]; exact below_drewN HBq.out qt)
                  have HRt : Hid (StrRow wt w1.heap.size _ L) := hid (by rw [hwt]; exact row_under HRq.out (below_drewN (Below.refl _ _) qt))
                  clear hwt
                  go_wp2_with fail
                  refine (CTB.out _).mono ?_
                  rintro e wu ⟨rfl, qu, hwu⟩
                  have HBu : Hid (Below w1.heap.size w1 wu) := hid (by rw [hwu]; exact below_drewN HBt.out qu)
                  have HRu : Hid (StrRow wu w1.heap.size _ L) := hid (by rw [hwu]; exact row_under HRt.out (below_drewN (Below.refl _ _) qu))
                  clear hwu
                  go_wp2
                  go_ret2
                  exact ⟨⟨_, rfl, World.ownsRow_nil _ _ _ _⟩, HB1.out.trans (HBu.out.mono hws)⟩
        · obtain ⟨y1, y2, y3, y4⟩ := str_yes hp0
          have hpn : p = [] := List.eq_nil_of_length_eq_zero (by omega)
          obtain rfl := HERR.out 4 (part_form (.inl hpn) HD.out) (by omega)
          clear hn hpn
          go_wp2
          go_ret2
          exact ⟨⟨_, rfl, World.ownsRow_nil _ _ _ _⟩, HB1.out.trans (hB.out.mono hws)⟩
      · have hltz : ¬ (i : Int) < (PS.length : Int) := by omega
        obtain rfl : i = PS.length := by omega
        have hfin : R = if checkM L ≠ 0 then ([], checkM L) else (L, 0) := by
          rw [← HR.out]
          have h := hgo.out
          rw [List.take_length] at h
          exact list_end_ HNE.out (by rw [HPS.out]; exact h)
        obtain ⟨C, hC⟩ : ∃ C, checkM L = C := ⟨_, rfl⟩
        rw [hC] at hfin
        have hC0 : C = checkGo [] L := by rw [← hC]; exact if_neg (by omega)
        have HFIN := hid hfin
        have HVAL := hid (hval.out)
        have hst0 : Hid (C = checkGo (L.take 0) (L.drop 0)) := hid hC0
        clear hfin hgo hC hC0
        go_wp2
        go_loopw [17, 18] (fun iv _ wr => ∃ (i q : Nat), i ≤ L.length ∧ iv = .int .i64 (i : Int) ∧ Hid (C = checkGo (L.take i) (L.drop i)) ∧ wr = wo.drewN q) (fun iv _ _ => L.length - (RowKit.intOf iv).toNat)
        case atStart => exact ⟨0, 0, by omega, rfl, hst0, rfl⟩
        case round =>
          obtain ⟨i, q, hi, rfl, hrr, rfl⟩ := hrel
          by_cases hlt : i < L.length
          · have hltz : (i : Int) < (L.length : Int) := by omega
            have hst := checkGo_step L i hlt
            rw [← hrr.out] at hst
            obtain ⟨b, off, rfl, hbl, hcell⟩ : ∃ b off, AL = some ⟨b, off, none⟩ ∧ True ∧ ∀ (j : Nat) (s : Str), L[j]? = some s → wo.cell? ⟨b, off + j, none⟩ = some (.string (ba s)) := by
              rcases HINL.out with h | ⟨b, off, h1, h2, h3⟩
              · subst h; simp at hlt
              · exact ⟨b, off, h1, trivial, h3⟩
            obtain ⟨s1, hs1⟩ : ∃ s, L[i] = s := ⟨_, rfl⟩
            rw [hs1] at hst
            have hvi : validC s1 = true := HVAL.out s1 (by rw [← hs1]; exact List.getElem_mem hlt)
            rw [if_neg (by rw [hvi]; simp)] at hst
            have HST := hid hst
            have HC := hid hcell
            have HS := hid hs1
            clear hst hs1 hcell hvi
            go_wp2
            go_loopw [18] (fun jv wq => ∃ (j q : Nat), j ≤ i ∧ jv = .int .i64 (j : Int) ∧ Hid (s1 ∉ L.take j) ∧ wq = wo.drewN q) (fun jv _ => i - (RowKit.intOf jv).toNat)
            case atStart => exact ⟨0, q, Nat.zero_le _, rfl, hid (by simp), rfl⟩
            case round =>
              obtain ⟨j, q, hj, rfl, hno, rfl⟩ := hrel
              by_cases hji : j < i
              · have hjz : (j : Int) < (i : Int) := by omega
                have hjl : j < L.length := by omega
                have hjlz : (j : Int) < (L.length : Int) := by omega
                obtain ⟨s2, hs2⟩ : ∃ s, L[j] = s := ⟨_, rfl⟩
                have hcj := HC.out j s2 (by rw [List.getElem?_eq_getElem hjl, hs2])
                have hci := HC.out i s1 (by rw [List.getElem?_eq_getElem hlt, HS.out])
                have hmem : s1 = s2 → s1 ∈ L.take i := fun h => by
                  rw [h, ← hs2]
                  exact List.mem_take_iff_getElem.2 ⟨j, by omega, rfl⟩
                have hnot : ¬ s1 = s2 → s1 ∉ L.take (j + 1) := fun h => by
                  rw [List.take_succ_eq_append_getElem hjl, List.mem_append]
                  rintro (h2 | h2)
                  · exact hno.out h2
                  · rw [hs2] at h2
                    exact h (by simpa using h2)
                rcases str_eq (a := ba s1) (b := ba s2) with ⟨he, t1, t2⟩ | ⟨he, t1, t2⟩
                · have hr : Hid (C = 11) := hid (by rw [HST.out, if_pos (hmem he)])
                  generalize ba s1 = S1 at *
                  generalize ba s2 = S2 at *
                  clear hmem hnot he hs2 hno
                  go_wp2_with fail
                  go_quiet (fail)
                  go_wp2
                  go_ret2
                  have hB2 := HB1.out.trans (hB.out.mono hws)
                  have hR2 := HFIN.out
                  rw [hr.out, if_pos (by omega)] at hR2
                  rw [hR2]
                  exact ⟨⟨_, rfl, World.ownsRow_nil _ _ _ _⟩, below_drewN (below_drewN hB2 _) _⟩
                · have hn2 := hid (hnot he)
                  generalize ba s1 = S1 at *
                  generalize ba s2 = S2 at *
                  clear hmem hnot he hs2 hno
                  go_wp2_with fail
                  go_quiet (fail)
                  go_wp2
                  go_roundw
                  case rel => exact ⟨j + 1, _, by omega, by go_num, hn2, rfl⟩
                  case measure => simp [RowKit.intOf]; omega
              · obtain rfl : j = i := by omega
                have hrr2 : Hid (C = checkGo (L.take (j + 1)) (L.drop (j + 1))) := hid (by rw [HST.out, if_neg hno.out])
                go_wp2
                go_roundw
                case rel => exact ⟨j + 1, q, by omega, by go_num, hrr2, rfl⟩
                case measure => simp [RowKit.intOf]; omega
          · obtain rfl : i = L.length := by omega
            have hC0 : C = 0 := by rw [hrr.out, List.drop_length]; cases L.take L.length <;> rfl
            have hR2 := HFIN.out
            rw [hC0, if_neg (by simp)] at hR2
            have HR2 := hid hR2
            clear hC0 hR2 hrr
            go_wp2
            go_ret2
            rw [HR2.out]
            exact ⟨⟨_, rfl, StrRow.mono (row_under HRow.out (below_drewN (Below.refl _ _) q)) hws⟩, below_drewN (HB1.out.trans (hB.out.mono hws)) q⟩
  · obtain ⟨x1, x2, x3, x4⟩ := str_yes h0
    have hnil := lst_nil h0
    have hM : listM (lst s) = ([], 0) := by rw [hnil]; rfl
    rw [hM]
    clear hM hnil
    go_enter Tryz.func125, Tryz.ntmps125
    go_wp2
    go_ret2
    exact ⟨⟨_, rfl, World.ownsRow_nil _ _ _ _⟩, Below.refl _ _⟩
end Go.Proofs.YtlgmanbilaminaaGreatDoor.S3
namespace Go.Proofs.YtlgmanbilaminaaGreatDoor.S12
open Go Go.Proofs Go.RowKit Go.Lib Go.Proofs.YtlgmanbilaminaaGreatDoor
def shortM (s : Str) : List Str × Int := if (S3.listM s).2 = 0 ∧ 8 < (S3.listM s).1.length then ([], 2) else S3.listM s
theorem shortM_few (s : Str) : (shortM s).2 = (fewM s).2 ∧ ((fewM s).2 = 0 → (shortM s).1 = (fewM s).1) := by
  unfold shortM fewM
  by_cases h : (S3.listM s).2 = 0
  · by_cases h8 : 8 < (S3.listM s).1.length
    · rw [if_pos ⟨h, h8⟩, if_neg (by simpa using h), if_pos h8]
      exact ⟨rfl, fun _ => rfl⟩
    · rw [if_neg (fun k => h8 k.2), if_neg (by simpa using h), if_neg h8]
      exact ⟨h, fun _ => rfl⟩
  · rw [if_neg (fun k => h k.1), if_pos h]
    exact ⟨rfl, fun k => absurd k h⟩
set_option maxHeartbeats 4000000 in
set_option maxRecDepth 100000 in
theorem short_any (s : ByteArray) (hs : s.size ≤ 2097152) (w : World) : Calls Tryz.prog 94 #[.string s] w (S3.ListOut (shortM (lst s)) w) := by
  have cL := S3.rlist_any s hs w
  unfold S3.ListOut at cL
  have hsh : shortM (lst s) = if (S3.listM (lst s)).2 = 0 ∧ 8 < (S3.listM (lst s)).1.length then ([], 2) else S3.listM (lst s) := rfl
  obtain ⟨⟨l, e0⟩, hR⟩ : ∃ R, S3.listM (lst s) = R := ⟨_, rfl⟩
  rw [show S3.listM (S3.lst s) = (l, e0) from hR] at cL
  rw [hR] at hsh
  obtain ⟨S, hS⟩ : ∃ S, shortM (lst s) = S := ⟨_, rfl⟩
  rw [hS] at hsh
  rw [hS]
  have HSH := hid hsh
  unfold S3.ListOut
  dsimp only at cL
  have CL := hid cL
  clear cL hR hsh hS
  go_enter Tryz.func94, Tryz.ntmps94
  go_wp2_with fail
  refine CL.out.mono ?_
  rintro e w1 ⟨⟨v, rfl, hrow⟩, hb⟩
  obtain ⟨A, c, rfl, _, _, _⟩ := hrow.strsIn
  have HR := hid hrow
  have HB := hid hb
  clear hrow hb CL
  by_cases he : e0 = 0
  · subst he
    by_cases h8 : 8 < l.length
    · have h8z : (8 : Int) < (l.length : Int) := by omega
      obtain rfl : S = ([], 2) := by rw [HSH.out]; exact if_pos ⟨rfl, h8⟩
      clear h8
      go_wp2
      go_ret2
      exact ⟨⟨_, rfl, World.ownsRow_nil _ _ _ _⟩, HB.out⟩
    · have h8z : ¬ (8 : Int) < (l.length : Int) := by omega
      obtain rfl : S = (l, 0) := by rw [HSH.out]; exact if_neg (fun k => h8 k.2)
      clear h8
      go_wp2
      go_ret2
      exact ⟨⟨_, rfl, HR.out⟩, HB.out⟩
  · have hez : (e0 == 0) = false := by simpa using he
    obtain rfl : S = (l, e0) := by rw [HSH.out]; exact if_neg (fun k => he k.1)
    go_wp2
    go_ret2
    exact ⟨⟨_, rfl, HR.out⟩, HB.out⟩
end Go.Proofs.YtlgmanbilaminaaGreatDoor.S12
