/-
  The reference's Join: its contract (joinM). Conditions: the list of strings lies in memory. The records of requests by the specification: Write, with what lets .. Conditions: as stated.
-/
import Derived.Test.YtlgmanbilaminaaGreatDoorMN23
set_option linter.unusedVariables false
namespace Go.Proofs.YtlgmanbilaminaaGreatDoor.S3
open Go Go.Proofs Go.RowKit Go.Lib
set_option maxHeartbeats 8000000 in
set_option maxRecDepth 100000 in
theorem rjoin_any (A : Option Addr) (l : List Str) (c : Nat) (w : World) (h : StrsIn w (fun b => b < w.heap.size) A l) (hlc : l.length ≤ c) (hc : c ≤ 9223372036854775807) :
    Calls Tryz.prog 36 #[.slice A l.length c] w (JoinOut l w) := by
  unfold JoinOut
  obtain ⟨R, hR⟩ : ∃ R, checkM l = R := ⟨_, rfl⟩
  rw [hR]
  obtain ⟨TX, hTX⟩ : ∃ T, ba (if R = 0 then joinM l else []) = T := ⟨_, rfl⟩
  rw [hTX]
  have HT := hid hTX
  clear hTX
  have HL := hid h
  clear h
  by_cases h64 : 64 < l.length
  · have hz : (64 : Int) < (l.length : Int) := by omega
    have hr : Hid (R = 2) := hid (by rw [← hR]; exact if_pos h64)
    clear hR
    go_enter Tryz.func36, Tryz.ntmps36
    go_wp2
    go_ret2
    rw [← HT.out, hr.out]
    exact ⟨rfl, Below.refl _ _⟩
  · have hz : ¬ (64 : Int) < (l.length : Int) := by omega
    have hr0 : Hid (R = checkGo [] l) := hid (by rw [← hR]; exact if_neg h64)
    have HR := hid hR
    clear hR
    go_enter Tryz.func36, Tryz.ntmps36
    go_wp2
    go_loopw [4, 5] (fun iv _ wr => ∃ (i q : Nat), i ≤ l.length ∧ iv = .int .i64 (i : Int) ∧ Hid (R = checkGo (l.take i) (l.drop i)) ∧ wr = w.drewN q) (fun iv _ _ => l.length - (RowKit.intOf iv).toNat)
    case atStart => exact ⟨0, 0, Nat.zero_le _, rfl, hid hr0.out, rfl⟩
    case round =>
      obtain ⟨i, q, hi, rfl, hrr, rfl⟩ := hrel
      by_cases hlt : i < l.length
      · have hltz : (i : Int) < (l.length : Int) := by omega
        have hst := checkGo_step l i hlt
        rw [← hrr.out] at hst
        obtain ⟨b, off, rfl, hbl, hcell⟩ : ∃ b off, A = some ⟨b, off, none⟩ ∧ b < w.heap.size ∧ ∀ (j : Nat) (s : Str), l[j]? = some s → w.cell? ⟨b, off + j, none⟩ = some (.string (ba s)) := by
          rcases HL.out with h | h
          · subst h; simp at hlt
          · exact h
        obtain ⟨s, hs⟩ : ∃ s, l[i] = s := ⟨_, rfl⟩
        have hc0 := hcell i s (by rw [List.getElem?_eq_getElem hlt, hs])
        have HC : Hid (∀ (j : Nat) (s : Str) (q : Nat), l[j]? = some s → (w.drewN q).cell? ⟨b, off + j, none⟩ = some (.string (ba s))) := hid (fun j s q hj => hcell j s hj)
        have hcq : (w.drewN q).cell? ⟨b, off + i, none⟩ = some (.string (ba s)) := hc0
        have cV := refValid_any (ba s) (w.drewN q)
        rw [show (ba s).data.toList = s from rfl] at cV
        rw [hs] at hst
        have HST := hid hst
        have HS := hid hs
        clear hst hs hcell hc0
        by_cases hv : validC s = true
        · rw [hv] at cV
          have CV := hid cV
          clear cV
          go_wp2_with fail
          refine CV.out.mono ?_
          rintro e w1 ⟨rfl, rfl⟩
          go_wp2
          go_loopw [5] (fun jv wq => ∃ (j q : Nat), j ≤ i ∧ jv = .int .i64 (j : Int) ∧ Hid (s ∉ l.take j) ∧ wq = w.drewN q) (fun jv _ => i - (RowKit.intOf jv).toNat)
          case atStart => exact ⟨0, q, Nat.zero_le _, rfl, hid (by simp), rfl⟩
          case round =>
            obtain ⟨j, q, hj, rfl, hno, rfl⟩ := hrel
            by_cases hji : j < i
            · have hjz : (j : Int) < (i : Int) := by omega
              have hjl : j < l.length := by omega
              have hjlz : (j : Int) < (l.length : Int) := by omega
              obtain ⟨s2, hs2⟩ : ∃ s, l[j] = s := ⟨_, rfl⟩
              have hcj := HC.out j s2 0 (by rw [List.getElem?_eq_getElem hjl, hs2])
              have hci := HC.out i s 0 (by rw [List.getElem?_eq_getElem hlt, HS.out])
              change w.cell? _ = _ at hcj hci
              have hmem : s = s2 → s ∈ l.take i := fun h => by
                rw [h, ← hs2]
                exact List.mem_take_iff_getElem.2 ⟨j, by omega, rfl⟩
              have hnot : ¬ s = s2 → s ∉ l.take (j + 1) := fun h => by
                rw [List.take_succ_eq_append_getElem hjl, List.mem_append]
                rintro (h2 | h2)
                · exact hno.out h2
                · rw [hs2] at h2
                  exact h (by simpa using h2)
              rcases str_eq (a := ba s) (b := ba s2) with ⟨he, t1, t2⟩ | ⟨he, t1, t2⟩
              · have hr : Hid (R = 11) := hid (by rw [HST.out, if_neg (by rw [hv]; simp), if_pos (hmem he)])
                generalize ba s = S at *
                generalize ba s2 = S2 at *
                clear hmem hnot he hs2 hno
                go_wp2_with fail
                go_quiet (fail)
                go_wp2
                go_ret2
                rw [← HT.out, hr.out]
                exact ⟨rfl, below_drewN (below_drewN (Below.refl _ _) _) _⟩
              · have hn2 := hid (hnot he)
                generalize ba s = S at *
                generalize ba s2 = S2 at *
                clear hmem hnot he hs2 hno
                go_wp2_with fail
                go_quiet (fail)
                go_wp2
                go_roundw
                case rel => exact ⟨j + 1, _, by omega, by go_num, hn2, rfl⟩
                case measure => simp [RowKit.intOf]; omega
            · obtain rfl : j = i := by omega
              have hrr2 : Hid (R = checkGo (l.take (j + 1)) (l.drop (j + 1))) := hid (by rw [HST.out, if_neg (by rw [hv]; simp), if_neg hno.out])
              go_wp2
              go_roundw
              case rel => exact ⟨j + 1, q, by omega, by go_num, hrr2, rfl⟩
              case measure => simp [RowKit.intOf]; omega
        · have hv' : validC s = false := by simpa using hv
          rw [hv'] at cV
          have hr : Hid (R = 10) := hid (by rw [HST.out, if_pos hv'])
          have CV := hid cV
          clear cV
          go_wp2_with fail
          refine CV.out.mono ?_
          rintro e w1 ⟨rfl, rfl⟩
          go_wp2
          go_ret2
          rw [← HT.out, hr.out]
          exact ⟨rfl, below_drewN (Below.refl _ _) _⟩
      · obtain rfl : i = l.length := by omega
        have hR0 : R = 0 := by rw [hrr.out, List.drop_length]; cases l.take l.length <;> rfl
        obtain ⟨_, hv⟩ := check_valid (HR.out.trans hR0)
        have HV := hid hv
        have HTJ : Hid (TX = ba (semi (partsL l))) := hid (by rw [← HT.out, if_pos hR0]; rfl)
        subst hR0
        clear hv
        have HB0 : Hid (Below w.heap.size w (w.drewN q)) := hid (below_drewN (Below.refl _ _) _)
        generalize w.drewN q = w0 at HB0 ⊢
        go_wp2
        go_loopw [6, 7] (fun ov iv wr => ∃ (n : Nat) (ps : List Str), ov = .string (ba (semi ps)) ∧ iv = .int .i64 (n : Int) ∧ n ≤ l.length ∧ Hid (partsL l = ps ++ partsL (l.drop n)) ∧ Hid (ps = [] ↔ n = 0) ∧ Hid (Below w.heap.size w wr)) (fun _ iv _ => l.length - (RowKit.intOf iv).toNat)
        case atStart => exact ⟨0, [], rfl, rfl, Nat.zero_le _, hid rfl, hid (by simp), HB0⟩
        case round =>
          obtain ⟨n, ps, rfl, rfl, hn, hps, hpn, HB⟩ := hrel
          by_cases hnl : n < l.length
          · have hnlz : (n : Int) < (l.length : Int) := by omega
            obtain ⟨b, off, rfl, hbl, hcell⟩ : ∃ b off, A = some ⟨b, off, none⟩ ∧ b < w.heap.size ∧ ∀ (j : Nat) (s : Str), l[j]? = some s → w.cell? ⟨b, off + j, none⟩ = some (.string (ba s)) := by
              rcases HL.out with h | h
              · subst h; simp at hnl
              · exact h
            have HC : Hid (∀ wx, Below w.heap.size w wx → ∀ (j : Nat) (s : Str), l[j]? = some s → wx.cell? ⟨b, off + j, none⟩ = some (.string (ba s))) := hid (fun wx hb j s hj => (hb.cell (p := ⟨b, off + j, none⟩) hbl).trans (hcell j s hj))
            obtain ⟨f, hf⟩ : ∃ s, l[n] = s := ⟨_, rfl⟩
            have hf? : l[n]? = some f := by rw [List.getElem?_eq_getElem hnl, hf]
            have hvf := HV.out f (List.mem_of_getElem? hf?)
            have hf16 := validC_len hvf
            have hc0 := HC.out wr HB.out n f hf?
            have cT := hid (tail_any (ba f) hf16 wr)
            obtain ⟨k, hk⟩ : ∃ k, (lastS f).length = k := ⟨_, rfl⟩
            have hk16 : k ≤ 16 := by have := (last_len f hf16).1; omega
            have hLs : (ba (lastS f)).size = k := hk
            rw [show lst (ba f) = f from rfl] at cT
            generalize ba (lastS f) = LA at cT hLs
            generalize ba (preS f) = FR at cT
            have HK := hid hk
            have HF := hid hf?
            have hw1 : IntKind.i64.wrap ((n : Int) + 1) = (n : Int) + 1 := IntWalk.i64_in _ (by omega)
            clear hcell hf hk hf? hvf
            go_wp2_with fail
            refine cT.out.mono ?_
            rintro e w1 ⟨rfl, q1, rfl⟩
            have HB1 : Hid (Below w.heap.size w (wr.drewN q1)) := hid (below_drewN HB.out _)
            clear hc0 cT
            generalize wr.drewN q1 = w1 at HB1 ⊢
            have hstart : Hid (RunAt f (l.drop (n + 1)) 1 f (l.drop (n + 1))) := hid (RunAt.start _ _)
            go_upto_block 6 with fail
            go_cut [10] (fun ev wx => ∃ m : Nat, ev = .int .i64 (m : Int) ∧ n < m ∧ m ≤ l.length ∧ Hid (aheadM (f :: l.drop (n + 1)) = m - n) ∧ Hid (Below w.heap.size w wx))
            case first =>
              go_wp2_with fail
              go_loopw [10] (fun ev wq => ∃ (m : Nat) (p : Str), ev = .int .i64 (m : Int) ∧ n < m ∧ m ≤ l.length ∧ Hid (RunAt f (l.drop (n + 1)) (m - n) p (l.drop m)) ∧ Hid (l[m - 1]? = some p) ∧ Hid (Below w.heap.size w wq)) (fun ev _ => l.length - (RowKit.intOf ev).toNat)
              case atStart => exact ⟨n + 1, f, by go_num, by omega, by omega, hid (by rw [show n + 1 - n = 1 by omega]; exact hstart.out), HF, HB1⟩
              case round =>
                obtain ⟨m, p, rfl, hnm, hml, hrun, hp, HBq⟩ := hrel
                by_cases hm : m < l.length
                · have hmz : (m : Int) < (l.length : Int) := by omega
                  have hmd : decide ((m : Int) < (l.length : Int)) = true := decide_eq_true hmz
                  obtain ⟨g, hg⟩ : ∃ s, l[m] = s := ⟨_, rfl⟩
                  have hg? : l[m]? = some g := by rw [List.getElem?_eq_getElem hm, hg]
                  have hdrop : Hid (l.drop m = g :: l.drop (m + 1)) := hid (by rw [List.drop_eq_getElem_cons hm, hg])
                  have hg16 := validC_len (HV.out g (List.mem_of_getElem? hg?))
                  have hp16 := validC_len (HV.out p (List.mem_of_getElem? hp.out))
                  obtain ⟨B, hB⟩ : ∃ B, followsB g p k = B := ⟨_, rfl⟩
                  have c40 : Hid (∀ wx, Below w.heap.size w wx → Calls Tryz.prog 62 #[.string (ba g), .string (ba p), .int .i64 (k : Int)] wx fun e w' => e = .returned (.bool B) ∧ Below w.heap.size w w') := hid (fun wx hb => by
                    rw [← hB]
                    exact (follows_any (ba g) (ba p) k hg16 hp16 hk16 wx).mono fun e w' ⟨he, hb'⟩ => ⟨he, hb.trans (hb'.mono hb.size)⟩)
                  have HB := hid hB
                  have HG := hid hg?
                  have q1 : IntKind.i64.wrap ((m : Int) - 1) = (m : Int) - 1 := IntWalk.i64_in _ (by omega)
                  have q2 : (1 : Int) ≤ (m : Int) := by omega
                  have q3 : ((m : Int) - 1).toNat = m - 1 := by omega
                  have q4 : (m : Int) - 1 < (l.length : Int) := by omega
                  have hk' : Below w.heap.size w wr.drew := HBq.out.drew
                  have HC2 : Hid (∀ wx, Below w.heap.size w wx → wx.cell? ⟨b, off + m, none⟩ = some (.string (ba g)) ∧ wx.cell? ⟨b, off + (m - 1), none⟩ = some (.string (ba p))) := hid (fun wx hb => ⟨HC.out wx hb m g HG.out, HC.out wx hb (m - 1) p hp.out⟩)
                  generalize ba g = G at c40 HC2
                  generalize ba p = PV at c40 HC2
                  clear hg hg? hB
                  obtain ⟨hcs1, hcs2⟩ := HC2.out wr HBq.out
                  obtain ⟨hcd1, hcd2⟩ := HC2.out wr.drew hk'
                  go_upto_region 18 with fail
                  go_still_tail 16, (by kernel_rfl)
                  change wpList _ _ _ _ _ wr.drew
                  go_wp2_with fail
                  refine (c40.out _ hk').mono ?_
                  rintro e w' ⟨rfl, hk2⟩
                  have HK' := hid hk2
                  clear hk' c40 hk2 hcs1 hcs2 hcd1 hcd2 HC2
                  cases B with
                  | true =>
                    go_wp2_with fail
                    go_roundw
                    case rel => exact ⟨m + 1, g, by go_num, by omega, by omega, hid (by rw [show m + 1 - n = (m - n) + 1 by omega]; refine RunAt.on (p := p) (by rw [← hdrop.out]; exact hrun.out) (by rw [HK.out]; exact HB.out)), HG, HK'⟩
                    case measure => simp [RowKit.intOf]; omega
                  | false =>
                    have hrn : Hid (aheadM (f :: l.drop (n + 1)) = m - n) := hid (RunAt.off (p := p) (by rw [← hdrop.out]; exact hrun.out) (by rw [HK.out]; exact HB.out))
                    go_wp2_with fail
                    go_meet
                    exact ⟨m, rfl, hnm, hml, hrn, HK'⟩
                · have hmz : ¬ (m : Int) < (l.length : Int) := by omega
                  have hmd : decide ((m : Int) < (l.length : Int)) = false := decide_eq_false hmz
                  obtain rfl : m = l.length := by omega
                  have hrn : Hid (aheadM (f :: l.drop (n + 1)) = l.length - n) := hid (RunAt.end_ (p := p) (by have := hrun.out; rwa [List.drop_length] at this))
                  have hcut0 : ∀ q, Hid (Below w.heap.size w (wr.drewN q)) := fun q => hid (below_drewN HBq.out q)
                  have HCUT := hid hcut0
                  clear hcut0
                  go_wp2
                  go_quiet (fail)
                  go_wp2
                  go_meet
                  exact ⟨l.length, rfl, hnm, hml, hrn, HCUT.out _⟩
            case rest =>
              obtain ⟨m, rfl, hnm, hml, hrn, HBc⟩ := hcut
              obtain ⟨p, hp⟩ : ∃ s, l[m - 1]? = some s := ⟨l[m - 1], List.getElem?_eq_getElem (by omega)⟩
              have hcn := HC.out wc HBc.out n f HF.out
              have hcm := HC.out wc HBc.out (m - 1) p hp
              have hp16 := validC_len (HV.out p (List.mem_of_getElem? hp))
              have hdr : l.drop n = f :: l.drop (n + 1) := by
                rw [List.drop_eq_getElem_cons hnl]
                congr 1
                have h := HF.out
                rw [List.getElem?_eq_getElem hnl] at h
                injection h
              have hps2 := hps.out
              rw [hdr] at hps2
              have hmem : ∀ x ∈ ps, x ∈ partsL l := fun x hx => by rw [hps2]; exact List.mem_append_left _ hx
              have hpl : ps.length ≤ 64 := by
                have h1 := partsL_len _ l (Nat.le_refl _)
                have h2 := congrArg List.length hps2
                rw [List.length_append] at h2
                omega
              have hOl : (semi ps).length ≤ 3000 := by
                have h1 := semi_len ps (fun x hx => parts_short _ l (Nat.le_refl _) HV.out x (hmem x hx))
                omega
              have hnx3 : 3 ≤ m - n → partsL l = (ps ++ [rangeT f (m - n)]) ++ partsL (l.drop m) ∧ rangeT f (m - n) = f ++ [46, 46] ++ p := fun h3 => by
                have ha := partsL_range f (l.drop (n + 1)) (by rw [hrn.out]; exact h3)
                rw [hrn.out, ← hdr, List.drop_drop, show n + (m - n) = m by omega] at ha
                refine ⟨by rw [hps2, ← hdr, ha]; simp, ?_⟩
                have hn := ahead_nth f (l.drop (n + 1)) (m - n - 2) (by rw [hrn.out]; omega)
                rw [List.getElem?_drop, show n + 1 + (m - n - 2) = m - 1 by omega, hp, show m - n - 2 + 1 = m - n - 1 by omega] at hn
                injection hn with hn
                unfold rangeT
                rw [← hn]
                simp
              have hnx1 : ¬ 3 ≤ m - n → partsL l = (ps ++ [f]) ++ partsL (l.drop (n + 1)) := fun h3 => by
                rw [hps2, partsL_one f _ (by rw [hrn.out]; exact h3)]
                simp
              have HN3 := hid hnx3
              have HN1 := hid hnx1
              have hss : (n = 0 → ∀ T, semi (ps ++ [T]) = semi ps ++ T) ∧ (¬ n = 0 → ∀ T, semi (ps ++ [T]) = semi ps ++ 59 :: T) := by
                refine ⟨fun h T => ?_, fun h T => ?_⟩
                · rw [hpn.out.2 h]; rfl
                · rw [semi_snoc, if_neg (fun e => h (hpn.out.1 e))]
              have HSS := hid hss
              have HOe : ∃ O, semi ps = O := ⟨_, rfl⟩
              obtain ⟨O, hO⟩ := HOe
              rw [hO] at hOl ⊢
              have HO := hid hO
              have q1 : IntKind.i64.wrap ((m : Int) - 1) = (m : Int) - 1 := IntWalk.i64_in _ (by omega)
              have q2 : (1 : Int) ≤ (m : Int) := by omega
              have q3 : ((m : Int) - 1).toNat = m - 1 := by omega
              have q4 : (m : Int) - 1 < (l.length : Int) := by omega
              have q5 : IntKind.i64.wrap ((m : Int) - (n : Int)) = (m : Int) - (n : Int) := IntWalk.i64_in _ (by omega)
              have addS := fun (X Y : Str) (h : X.length + Y.length ≤ 100000) => show ∀ w, (Op.stringOp .add (ba X) (ba Y)).run Tryz.prog w = .ok (.string (ba (X ++ Y))) w from fun w => by rw [run_string_add_sum (w := w) _ _ (by rw [ba_size, ba_size]; omega), ba_app]
              have ADD := hid addS
              have hf2 : (ba f).size = f.length := rfl
              clear hmem hdr hps2 hnx3 hnx1 hss hO addS hp hps
              by_cases h3 : 3 ≤ m - n
              · have h3z : (3 : Int) ≤ (m : Int) - (n : Int) := by omega
                obtain ⟨hnx, hT⟩ := HN3.out h3
                have b1 := ADD.out f [46, 46] (by rw [show ([46, 46] : Str).length = 2 from rfl]; have := validC_len (HV.out f (List.mem_of_getElem? HF.out)); omega)
                have b2 := ADD.out (f ++ [46, 46]) p (by rw [List.length_append, show ([46, 46] : Str).length = 2 from rfl]; have := validC_len (HV.out f (List.mem_of_getElem? HF.out)); omega)
                rw [show ba [46, 46] = (⟨#[46, 46]⟩ : ByteArray) from rfl] at b1
                rw [← hT] at b2
                have hTl : (rangeT f (m - n)).length ≤ 40 := by rw [hT, List.length_append, List.length_append, show ([46, 46] : Str).length = 2 from rfl]; have := validC_len (HV.out f (List.mem_of_getElem? HF.out)); omega
                obtain ⟨T, hTe⟩ : ∃ T, rangeT f (m - n) = T := ⟨_, rfl⟩
                rw [hTe] at b2 hnx hTl
                have HNX := hid hnx
                obtain ⟨F2, hF2⟩ : ∃ F2, ba (f ++ [46, 46]) = F2 := ⟨_, rfl⟩
                rw [hF2] at b1 b2
                obtain ⟨PV, hPV⟩ : ∃ PV, ba p = PV := ⟨_, rfl⟩
                rw [hPV] at b2 hcm
                obtain ⟨FV, hFV⟩ : ∃ FV, ba f = FV := ⟨_, rfl⟩
                rw [hFV] at b1 hcn
                by_cases hn0 : n = 0
                · have hn0z : ¬ (0 : Int) < (n : Int) := by omega
                  have hsn := hid (HSS.out.1 hn0)
                  have b3 := ADD.out O T (by omega)
                  clear hnx hT hTe hF2 hPV hFV hn0 h3
                  go_wp2_with fail
                  go_quiet (fail)
                  have HBd : Hid (Below w.heap.size w (wc.drewN nq)) := hid (below_drewN HBc.out nq)
                  go_wp2
                  go_roundw
                  case rel => exact ⟨m, ps ++ [T], by rw [hsn.out, HO.out], rfl, hml, HNX, hid (by simp; omega), HBd⟩
                  case measure => simp [RowKit.intOf]; omega
                · have hn0z : (0 : Int) < (n : Int) := by omega
                  have hsn := hid (HSS.out.2 hn0)
                  have b0 := ADD.out O [59] (by rw [List.length_singleton]; omega)
                  rw [show ba [59] = (⟨#[59]⟩ : ByteArray) from rfl] at b0
                  have b3 := ADD.out (O ++ [59]) T (by rw [List.length_append, List.length_singleton]; omega)
                  rw [List.append_assoc, List.singleton_append] at b3
                  clear hnx hT hTe hF2 hPV hFV hn0 h3
                  go_wp2_with fail
                  go_quiet (fail)
                  have HBd : Hid (Below w.heap.size w (wc.drewN nq)) := hid (below_drewN HBc.out nq)
                  go_wp2
                  go_roundw
                  case rel => exact ⟨m, ps ++ [T], by rw [hsn.out, HO.out], rfl, hml, HNX, hid (by simp; omega), HBd⟩
                  case measure => simp [RowKit.intOf]; omega
              · have h3z : ¬ (3 : Int) ≤ (m : Int) - (n : Int) := by omega
                have HNX := hid (HN1.out h3)
                have hfl := validC_len (HV.out f (List.mem_of_getElem? HF.out))
                obtain ⟨T, hTe⟩ : ∃ T, f = T := ⟨_, rfl⟩
                by_cases hn0 : n = 0
                · have hn0z : ¬ (0 : Int) < (n : Int) := by omega
                  have hsn := hid (HSS.out.1 hn0)
                  have b3 := ADD.out O f (by omega)
                  clear hn0 h3 hTe
                  go_wp2
                  go_roundw
                  case rel => exact ⟨n + 1, ps ++ [f], by rw [hsn.out, HO.out], by go_num, by omega, HNX, hid (by simp), HBc⟩
                  case measure => simp [RowKit.intOf]; omega
                · have hn0z : (0 : Int) < (n : Int) := by omega
                  have hsn := hid (HSS.out.2 hn0)
                  have b0 := ADD.out O [59] (by rw [List.length_singleton]; omega)
                  rw [show ba [59] = (⟨#[59]⟩ : ByteArray) from rfl] at b0
                  have b3 := ADD.out (O ++ [59]) f (by rw [List.length_append, List.length_singleton]; omega)
                  rw [List.append_assoc, List.singleton_append] at b3
                  clear hn0 h3 hTe
                  go_wp2
                  go_roundw
                  case rel => exact ⟨n + 1, ps ++ [f], by rw [hsn.out, HO.out], by go_num, by omega, HNX, hid (by simp), HBc⟩
                  case measure => simp [RowKit.intOf]; omega
          · obtain rfl : n = l.length := by omega
            have hT2 : Hid (TX = ba (semi ps)) := hid (by rw [HTJ.out, hps.out, List.drop_length, partsL_nil, List.append_nil])
            go_wp2
            go_ret2
            rw [hT2.out]
            exact ⟨rfl, HB.out⟩
end Go.Proofs.YtlgmanbilaminaaGreatDoor.S3
namespace Go.Proofs.YtlgmanbilaminaaGreatDoor.S12
open Go Go.Proofs Go.RowKit Go.Lib Go.Proofs.YtlgmanbilaminaaGreatDoor Go.Proofs.YtlgmanbilaminaaGreatDoor.S10 Go.Proofs.YtlgmanbilaminaaGreatDoor.S11
structure WQ4 (w0 : World) (fb o : Nat) (v0 v1 v2 : Value) (W : World) : Prop where
  b : Below w0.heap.size w0 W
  c0 : W.cell? ⟨fb, o, none⟩ = some v0
  c1 : W.cell? ⟨fb, o + 1, none⟩ = some v1
  c2 : W.cell? ⟨fb, o + 2, none⟩ = some v2
  z : fb < w0.heap.size
section
variable {w0 W W' : World} {fb o : Nat} {v0 v1 v2 : Value}
theorem WQ4.under (h : WQ4 w0 fb o v0 v1 v2 W) (k : Below w0.heap.size W W') : WQ4 w0 fb o v0 v1 v2 W' :=
  ⟨h.b.trans k, (k.cell (p := ⟨fb, o, none⟩) h.z).trans h.c0, (k.cell (p := ⟨fb, o + 1, none⟩) h.z).trans h.c1, (k.cell (p := ⟨fb, o + 2, none⟩) h.z).trans h.c2, h.z⟩
theorem WQ4.next (h : WQ4 w0 fb o v0 v1 v2 W) (k : Below W.heap.size W W') : WQ4 w0 fb o v0 v1 v2 W' := h.under (k.mono h.b.size)
theorem WQ4.grown (h : WQ4 w0 fb o v0 v1 v2 W) {row : Option Nat} (hg : W.grownBy W' row) (hr : ∀ k, row = some k → w0.heap.size ≤ k) : WQ4 w0 fb o v0 v1 v2 W' := h.under ((Below.refl _ W).grown hg h.b.size hr)
end
set_option maxHeartbeats 16000000 in
set_option maxRecDepth 100000 in
theorem qrwriteF_any (A : Option Addr) (l : List ReqD) (c : Nat) (w : World) (h : ReqsIn w (fun k => k < w.heap.size) A l) :
    Calls Tryz.prog 9 #[.slice A l.length c] w (WriteOutF (writeQ l) w) := by
  obtain ⟨iS, hiS, hzS, hsS, hbS⟩ := info_parts infoStrs7
  unfold WriteOutF writeQ
  have cV := qrvalid_any A l c w h
  unfold Says at cV
  obtain ⟨R, hR⟩ : ∃ R, validQ l = R := ⟨_, rfl⟩
  rw [hR] at cV ⊢
  have CV := hid cV
  have HH := hid (fun (w' : World) (hb : Below w.heap.size w w') => h.below hb)
  clear h cV
  by_cases hR0 : R = 0
  · subst hR0
    obtain ⟨h16, hok⟩ := validQ_ok hR
    have HOK := hid hok
    rw [if_neg (by simp)]
    clear hR hok
    go_enter Tryz.func9, Tryz.ntmps9
    go_wp2_with fail
    refine CV.out.mono ?_
    rintro e w1 ⟨rfl, hb⟩
    have HB1 := hid hb
    clear hb CV
    go_wp2
    go_loopw [5, 6] (fun v iv wr => ∃ (i : Nat) (L : List RowA), iv = .int .i64 (i : Int) ∧ i ≤ l.length ∧ Hid (L.map (·.1) = (l.take i).map rowQ) ∧ Hid (RowsF wr w.heap.size v L) ∧ Hid (Below w.heap.size w wr)) (fun _ iv _ => l.length - (RowKit.intOf iv).toNat)
    case atStart => exact ⟨0, [], rfl, Nat.zero_le _, hid rfl, hid (RowsF.nil _ _), HB1⟩
    case round =>
      clear HB1
      obtain ⟨i, L, rfl, hi, hL, hrow, hB⟩ := hrel
      obtain ⟨Ar, cr, hvr, _⟩ := hrow.out.1.rowsIn
      subst hvr
      have hLl : L.length = i := by
        have := congrArg List.length hL.out
        rw [List.length_map, List.length_map, List.length_take] at this
        omega
      have HLL := hid hLl
      clear hLl
      by_cases hlt : i < l.length
      · have hltz : (i : Int) < (l.length : Int) := by omega
        have dk : decide (l.length ≤ i) = false := decide_eq_false (by omega)
        obtain ⟨fb, fo, ⟨A2, c2⟩, rfl, hfb, hri, y0, y1, y2, y3⟩ := (HH.out _ hB.out).at_ hlt
        have hroom := reqM_all (HOK.out _ (List.getElem_mem hlt))
        have hck := (check_tail hroom.2.2.2.2.2).1
        have hst : (l.take (i + 1)).map rowQ = L.map (·.1) ++ [rowQ l[i]] := by rw [hL.out, List.take_succ_eq_append_getElem hlt, List.map_append]; rfl
        have cJ := S3.rjoin_any A2 l[i].l c2 wr (hri.t.mono (fun k hk => Nat.lt_of_lt_of_le hk hB.out.size)) hri.t1 hri.t2
        unfold S3.JoinOut at cJ
        rw [if_pos hck, hck] at cJ
        have cD := fun W => rdec4_any l[i].p (by omega) (by omega) W
        unfold Says at cD
        obtain ⟨⟨st, co, pr, ts⟩, hr⟩ : ∃ r, l[i] = r := ⟨_, rfl⟩
        rw [hr] at y0 y1 y2 y3 cJ hst
        simp only [hr] at cD
        dsimp only at y0 y1 y2 y3 cJ
        have hrw : rowQ ⟨st, co, pr, ts⟩ = [st, co, decDigits pr.toNat, S3.joinM ts] := rfl
        obtain ⟨RW, hRW⟩ : ∃ r, rowQ ⟨st, co, pr, ts⟩ = r := ⟨_, rfl⟩
        rw [hRW] at hst hrw
        obtain ⟨X1, hX1⟩ : ∃ X, ba st = X := ⟨_, rfl⟩
        obtain ⟨X2, hX2⟩ : ∃ X, ba co = X := ⟨_, rfl⟩
        obtain ⟨X3, hX3⟩ : ∃ X, ba (decDigits pr.toNat) = X := ⟨_, rfl⟩
        obtain ⟨X4, hX4⟩ : ∃ X, S3.ba (S3.joinM ts) = X := ⟨_, rfl⟩
        have hrs : S3.strVals RW = [.string X1, .string X2, .string X3, .string X4] := by rw [hrw, ← hX1, ← hX2, ← hX3, ← hX4]; rfl
        have hr2 : RW.length = 4 := by rw [hrw]; rfl
        obtain ⟨T1, hT1⟩ : ∃ F, ts.length = F := ⟨_, rfl⟩
        rw [hX1] at y0
        rw [hX2] at y1
        rw [hX4] at cJ
        simp only [hX3] at cD
        rw [hT1] at y3 cJ
        have hk0 : WQ4 w fb (fo + i * 4) (.string X1) (.string X2) (.int .i64 pr) wr := ⟨hB.out, y0, y1, y2, hfb⟩
        have HK0 := hid hk0
        have CJ := hid cJ
        have CD := hid cD
        have HST := hid hst
        have HRS := hid hrs
        have HR2 := hid hr2
        clear hr hRW hX1 hX2 hX3 hX4 hT1 cJ cD hst hri hroom hck hrw hrs hr2 y0 y1 y2 hk0
        go_wp2_with fail
        refine CJ.out.mono ?_
        rintro e w2 ⟨rfl, hb2⟩
        have HK2 := hid (HK0.out.next hb2)
        have HB2 := hid hb2
        clear hb2 CJ y3 HK0
        go_upto_region 9 with fail
        refine wp_region_held_drew (S := WQ4 w fb (fo + i * 4) (.string X1) (.string X2) (.int .i64 pr)) (by kernel_rfl) (HK2.out.next (Below.refl _ _).drew) (fun hHeld => ?_)
        have HBW : Hid (Below wr.heap.size wr w2.drew) := hid (HB2.out.trans (Below.refl _ _).drew)
        generalize w2.drew = wd at hHeld HBW ⊢
        (refine wpAnyH_take (i := 0) (oi := _) (v := ?_) rfl (by kernel_rfl) (by kernel_rfl) (by decide +kernel) (fun _ _ _ h => h) (Or.inl ⟨by rfl, ?_⟩) (by assumption) ?_; rotate_left; (intro wS hSw; skip; (try simp only [List.getElem_toArray, List.getElem_cons_zero]); go_simp; (try with_reducible rfl)))
        (try simp only [List.getElem_toArray, List.getElem_cons_zero, Act.put, List.setIfInBounds_toArray, List.set_cons_zero, List.set_cons_succ])
        (refine wpAnyH_take (i := 1) (oi := _) (v := ?_) rfl (by kernel_rfl) (by kernel_rfl) (by decide +kernel) (fun _ _ _ h => h) (Or.inl ⟨by rfl, ?_⟩) (by assumption) ?_; rotate_left; (intro wS hSw; skip; (try simp only [List.getElem_toArray, List.getElem_cons_succ, List.getElem_cons_zero]); go_simp; (try with_reducible rfl)))
        (try simp only [List.getElem_toArray, List.getElem_cons_succ, List.getElem_cons_zero, Act.put, List.setIfInBounds_toArray, List.set_cons_zero, List.set_cons_succ])
        (refine wpAnyH_take (i := 2) (oi := _) (v := ?_) rfl (by kernel_rfl) (by kernel_rfl) (by decide +kernel) (fun _ _ _ h => h) (Or.inl ⟨by rfl, ?_⟩) (by assumption) ?_; rotate_left; (intro wS hSw; skip; (try simp only [List.getElem_toArray, List.getElem_cons_succ, List.getElem_cons_zero]); go_simp; (try with_reducible rfl)))
        (try simp only [List.getElem_toArray, List.getElem_cons_succ, List.getElem_cons_zero, Act.put, List.setIfInBounds_toArray, List.set_cons_zero, List.set_cons_succ])
        (refine wpAnyH_take (i := 3) (oi := _) (v := ?_) rfl (by kernel_rfl) (by kernel_rfl) (by decide +kernel) (fun _ _ _ h => h) (Or.inl ⟨by rfl, ?_⟩) (by assumption) ?_; rotate_left; (intro wS hSw; skip; (try simp only [List.getElem_toArray, List.getElem_cons_succ, List.getElem_cons_zero]); go_simp; (try with_reducible rfl)))
        (try simp only [List.getElem_toArray, List.getElem_cons_succ, List.getElem_cons_zero, Act.put, List.setIfInBounds_toArray, List.set_cons_zero, List.set_cons_succ])
        (refine wpAnyH_take (i := 4) (oi := _) (v := ?_) rfl (by kernel_rfl) (by kernel_rfl) (by decide +kernel) (fun _ _ _ h => h) (Or.inl ⟨by rfl, ?_⟩) (by assumption) ?_; rotate_left; (intro wS hSw; skip; (try simp only [List.getElem_toArray, List.getElem_cons_succ, List.getElem_cons_zero]); go_simp; (try with_reducible rfl)))
        (try simp only [List.getElem_toArray, List.getElem_cons_succ, List.getElem_cons_zero, Act.put, List.setIfInBounds_toArray, List.set_cons_zero, List.set_cons_succ])
        (refine wpAnyH_take (i := 5) (oi := _) (v := ?_) rfl (by kernel_rfl) (by kernel_rfl) (by decide +kernel) (fun _ _ _ h => h) (Or.inl ⟨by rfl, ?_⟩) (by assumption) ?_; rotate_left; (intro wS hSw; have a0 := hSw.c0; (try simp only [List.getElem_toArray, List.getElem_cons_succ, List.getElem_cons_zero]); go_simp; (try with_reducible rfl)))
        (try simp only [List.getElem_toArray, List.getElem_cons_succ, List.getElem_cons_zero, Act.put, List.setIfInBounds_toArray, List.set_cons_zero, List.set_cons_succ])
        (refine wpAnyH_take (i := 6) (oi := _) (v := ?_) rfl (by kernel_rfl) (by kernel_rfl) (by decide +kernel) (fun _ _ _ h => h) (Or.inl ⟨by rfl, ?_⟩) (by assumption) ?_; rotate_left; (intro wS hSw; skip; (try simp only [List.getElem_toArray, List.getElem_cons_succ, List.getElem_cons_zero]); go_simp; (try with_reducible rfl)))
        (try simp only [List.getElem_toArray, List.getElem_cons_succ, List.getElem_cons_zero, Act.put, List.setIfInBounds_toArray, List.set_cons_zero, List.set_cons_succ])
        (refine wpAnyH_take (i := 7) (oi := _) (v := ?_) rfl (by kernel_rfl) (by kernel_rfl) (by decide +kernel) (fun _ _ _ h => h) (Or.inl ⟨by rfl, ?_⟩) (by assumption) ?_; rotate_left; (intro wS hSw; skip; (try simp only [List.getElem_toArray, List.getElem_cons_succ, List.getElem_cons_zero]); go_simp; (try with_reducible rfl)))
        (try simp only [List.getElem_toArray, List.getElem_cons_succ, List.getElem_cons_zero, Act.put, List.setIfInBounds_toArray, List.set_cons_zero, List.set_cons_succ])
        (refine wpAnyH_take (i := 8) (oi := _) (v := ?_) rfl (by kernel_rfl) (by kernel_rfl) (by decide +kernel) (fun _ _ _ h => h) (Or.inl ⟨by rfl, ?_⟩) (by assumption) ?_; rotate_left; (intro wS hSw; skip; (try simp only [List.getElem_toArray, List.getElem_cons_succ, List.getElem_cons_zero]); go_simp; (try with_reducible rfl)))
        (try simp only [List.getElem_toArray, List.getElem_cons_succ, List.getElem_cons_zero, Act.put, List.setIfInBounds_toArray, List.set_cons_zero, List.set_cons_succ])
        (refine wpAnyH_take (i := 9) (oi := _) (v := ?_) rfl (by kernel_rfl) (by kernel_rfl) (by decide +kernel) (fun _ _ _ h => h) (Or.inl ⟨by rfl, ?_⟩) (by assumption) ?_; rotate_left; (intro wS hSw; skip; (try simp only [List.getElem_toArray, List.getElem_cons_succ, List.getElem_cons_zero]); go_simp; (try with_reducible rfl)))
        (try simp only [List.getElem_toArray, List.getElem_cons_succ, List.getElem_cons_zero, Act.put, List.setIfInBounds_toArray, List.set_cons_zero, List.set_cons_succ])
        (refine wpAnyH_take (i := 10) (oi := _) (v := ?_) rfl (by kernel_rfl) (by kernel_rfl) (by decide +kernel) (fun _ _ _ h => h) (Or.inl ⟨by rfl, ?_⟩) (by assumption) ?_; rotate_left; (intro wS hSw; have a1 := hSw.c1; (try simp only [List.getElem_toArray, List.getElem_cons_succ, List.getElem_cons_zero]); go_simp; (try with_reducible rfl)))
        (try simp only [List.getElem_toArray, List.getElem_cons_succ, List.getElem_cons_zero, Act.put, List.setIfInBounds_toArray, List.set_cons_zero, List.set_cons_succ])
        (refine wpAnyH_take (i := 11) (oi := _) (v := ?_) rfl (by kernel_rfl) (by kernel_rfl) (by decide +kernel) (fun _ _ _ h => h) (Or.inl ⟨by rfl, ?_⟩) (by assumption) ?_; rotate_left; (intro wS hSw; skip; (try simp only [List.getElem_toArray, List.getElem_cons_succ, List.getElem_cons_zero]); go_simp; (try with_reducible rfl)))
        (try simp only [List.getElem_toArray, List.getElem_cons_succ, List.getElem_cons_zero, Act.put, List.setIfInBounds_toArray, List.set_cons_zero, List.set_cons_succ])
        (refine wpAnyH_take (i := 12) (oi := _) (v := ?_) rfl (by kernel_rfl) (by kernel_rfl) (by decide +kernel) (fun _ _ _ h => h) (Or.inl ⟨by rfl, ?_⟩) (by assumption) ?_; rotate_left; (intro wS hSw; skip; (try simp only [List.getElem_toArray, List.getElem_cons_succ, List.getElem_cons_zero]); go_simp; (try with_reducible rfl)))
        (try simp only [List.getElem_toArray, List.getElem_cons_succ, List.getElem_cons_zero, Act.put, List.setIfInBounds_toArray, List.set_cons_zero, List.set_cons_succ])
        (refine wpAnyH_take (i := 13) (oi := _) (v := ?_) rfl (by kernel_rfl) (by kernel_rfl) (by decide +kernel) (fun _ _ _ h => h) (Or.inl ⟨by rfl, ?_⟩) (by assumption) ?_; rotate_left; (intro wS hSw; skip; (try simp only [List.getElem_toArray, List.getElem_cons_succ, List.getElem_cons_zero]); go_simp; (try with_reducible rfl)))
        (try simp only [List.getElem_toArray, List.getElem_cons_succ, List.getElem_cons_zero, Act.put, List.setIfInBounds_toArray, List.set_cons_zero, List.set_cons_succ])
        (refine wpAnyH_take (i := 14) (oi := _) (v := ?_) rfl (by kernel_rfl) (by kernel_rfl) (by decide +kernel) (fun _ _ _ h => h) (Or.inl ⟨by rfl, ?_⟩) (by assumption) ?_; rotate_left; (intro wS hSw; skip; (try simp only [List.getElem_toArray, List.getElem_cons_succ, List.getElem_cons_zero]); go_simp; (try with_reducible rfl)))
        (try simp only [List.getElem_toArray, List.getElem_cons_succ, List.getElem_cons_zero, Act.put, List.setIfInBounds_toArray, List.set_cons_zero, List.set_cons_succ])
        (refine wpAnyH_take (i := 15) (oi := _) (v := ?_) rfl (by kernel_rfl) (by kernel_rfl) (by decide +kernel) (fun _ _ _ h => h) (Or.inl ⟨by rfl, ?_⟩) (by assumption) ?_; rotate_left; (intro wS hSw; have a2 := hSw.c2; (try simp only [List.getElem_toArray, List.getElem_cons_succ, List.getElem_cons_zero]); go_simp; (try with_reducible rfl)))
        (try simp only [List.getElem_toArray, List.getElem_cons_succ, List.getElem_cons_zero, Act.put, List.setIfInBounds_toArray, List.set_cons_zero, List.set_cons_succ])
        (refine wpAnyH_take (i := 17) (oi := _) (v := ?_) rfl (by kernel_rfl) (by kernel_rfl) (by decide +kernel) (fun _ _ _ h => h) (Or.inl ⟨by rfl, ?_⟩) (by assumption) ?_; rotate_left; (intro wS hSw; skip; (try simp only [List.getElem_toArray, List.getElem_cons_succ, List.getElem_cons_zero]); go_simp; (try with_reducible rfl)))
        (try simp only [List.getElem_toArray, List.getElem_cons_succ, List.getElem_cons_zero, Act.put, List.setIfInBounds_toArray, List.set_cons_zero, List.set_cons_succ])
        (refine wpAnyH_ready (rs := [16]) (by kernel_rfl) (by simp) ?_; refine AllReadyH.cons (o := _) rfl (fun K hK => ?_) AllReadyH.nil; (try simp only [List.getElem_toArray, List.getElem_cons_succ, List.getElem_cons_zero]); go_simp; go_at_call 37; refine (CD.out _).mono ?_; rintro e w4 ⟨rfl, hb4⟩; have hHeld := hHeld.next hb4; have HB4 := hid (HBW.out.trans (hb4.mono HBW.out.size)); have HK4 := hid hHeld; have hrow4 : w4.ownsRow w.heap.size 40 1 (.slice Ar L.length cr) L.length (L.map rowV) := row_under hrow.out.1.1 HB4.out; have HRow4 := hid hrow4; have HC3 : Hid (L.length + 1 ≤ maxLen) := (by unfold maxLen; exact hid (by have := HLL.out; omega)); have HC4 : Hid ((L.length + 1) * 24 ≤ 140737488355328) := hid (by have := HLL.out; omega); clear hb4 hrow4; go_wp2_with fail; refine hK.out _ _ hHeld (fun hHeld => ?_); clear hK K)
        (try simp only [List.getElem_toArray, List.getElem_cons_succ, List.getElem_cons_zero, Act.put, List.setIfInBounds_toArray, List.set_cons_zero, List.set_cons_succ])
        (refine wpAnyH_ready (rs := [18]) (by kernel_rfl) (by simp) ?_; refine AllReadyH.cons (o := _) rfl (fun K hK => ?_) AllReadyH.nil; (try simp only [List.getElem_toArray, List.getElem_cons_succ, List.getElem_cons_zero]); go_simp; go_wp2_with fail; refine hK.out _ _ (hHeld.next ((Below.refl _ _).alloc (Nat.le_refl _) _)) (fun hHeld => ?_); clear hK K)
        (try simp only [List.getElem_toArray, List.getElem_cons_succ, List.getElem_cons_zero, Act.put, List.setIfInBounds_toArray, List.set_cons_zero, List.set_cons_succ])
        (refine wpAnyH_ready (rs := [19]) (by kernel_rfl) (by simp) ?_; refine AllReadyH.cons (o := _) rfl (fun K hK => ?_) AllReadyH.nil; (try simp only [List.getElem_toArray, List.getElem_cons_succ, List.getElem_cons_zero]); go_simp; go_wp2_with fail; refine hK.out _ _ (hHeld.next ((Below.refl _ _).alloc (Nat.le_refl _) _)) (fun hHeld => ?_); clear hK K)
        (try simp only [List.getElem_toArray, List.getElem_cons_succ, List.getElem_cons_zero, Act.put, List.setIfInBounds_toArray, List.set_cons_zero, List.set_cons_succ])
        (refine wpAnyH_ready (rs := [20]) (by kernel_rfl) (by simp) ?_; refine AllReadyH.cons (o := _) rfl (fun K hK => ?_) AllReadyH.nil; (try simp only [List.getElem_toArray, List.getElem_cons_succ, List.getElem_cons_zero]); refine step_append_lies (a := { tmps := _, defers := _ }) _ (by rfl) _ _ _ (by rfl) w.heap.size 40 iS (.slice none 0 0) 1 24 Tryz.underlying28 hiS hzS hsS hbS rfl (by decide) (.slice Ar L.length cr) L.length (L.map rowV) (by rfl) (World.ownsRow.alloc (World.ownsRow.alloc HRow4.out _) _) ⟨w4.heap.size + 1, 0, none⟩ 1 1 [.slice (some ⟨w4.heap.size, 0, none⟩) 4 4] (by rfl) (by rfl) (by have := one_new (w4.alloc (.cells #[.string X1, .string X2, .string X3, .string X4] 9)) (.slice (some ⟨w4.heap.size, 0, none⟩) 4 4) 40; simpa using this) (one_slice _ _ _) (by decide) HC3.out HC4.out (by have := HK4.out.b.size; simp; omega) (w4.heap.size + 1 + 1) (by simp) ?_; intro g7 cap7 w7 hown7 hgrow7 hat7 hlt7; have hHeld := hHeld.grown hgrow7 (fun k hk => (World.ownsRow.lt HRow4.out k hk).1); have HOWN := hid hown7; have HGR := hid hgrow7; have HAT := hid hat7; clear hown7 hgrow7 hat7; refine hK.out _ _ hHeld (fun hHeld => ?_); clear hK K)
        (try simp only [Act.put, List.setIfInBounds_toArray, List.set_cons_zero, List.set_cons_succ])
        (refine wpAnyH_take (i := 21) (oi := _) (v := ?_) rfl (by kernel_rfl) (by kernel_rfl) (by decide +kernel) (fun _ _ _ h => h) (Or.inl ⟨by rfl, ?_⟩) (by assumption) ?_; rotate_left; (intro wS hSw; skip; (try simp only [List.getElem_toArray, List.getElem_cons_succ, List.getElem_cons_zero]); go_simp; (try with_reducible rfl)))
        (try simp only [List.getElem_toArray, List.getElem_cons_succ, List.getElem_cons_zero, Act.put, List.setIfInBounds_toArray, List.set_cons_zero, List.set_cons_succ])
        refine wpAnyH_done (by kernel_rfl) ?_ _
        have hin : S3.StrRow (w4.alloc (.cells #[.string X1, .string X2, .string X3, .string X4] 9)) w4.heap.size (.slice (some ⟨w4.heap.size, 0, none⟩) RW.length 4) RW := by
          unfold S3.StrRow
          rw [HRS.out, HR2.out]
          exact World.ownsRow_lit w4 #[.string X1, .string X2, .string X3, .string X4] 4 (Nat.le_refl _) (by decide) rfl
        have hown7 := HOWN.out
        rw [show (4 : Nat) = RW.length from HR2.out.symm] at hown7
        have hsn := RowsF.snoc (c := 4) hrow.out (Nat.le_trans hB.out.size HB4.out.size) HB4.out ((Below.refl w4.heap.size w4).alloc (Nat.le_refl _) _) hin ((Below.refl _ (w4.alloc (.cells #[.string X1, .string X2, .string X3, .string X4] 9))).alloc (Nat.le_refl _) _) (by rw [HR2.out] at hown7 ⊢; exact hown7) HGR.out (by
          rcases HAT.out with h | h
          · exact .inl h.symm
          · exact .inr (by rw [h]; simp [Value.ownBlock]))
        have HSN := hid hsn
        have HK7 := hid hHeld.b
        have HL2 : Hid ((L ++ [((RW, some ⟨w4.heap.size, 0, none⟩, 4) : RowA)]).map (·.1) = (l.take (i + 1)).map rowQ) := hid (by rw [HST.out, List.map_append]; rfl)
        clear hin hown7 hsn hHeld
        go_wp2
        go_roundw
        case rel => exact ⟨i + 1, L ++ [((RW, some ⟨w4.heap.size, 0, none⟩, 4) : RowA)], by go_num, by omega, HL2, HSN, HK7⟩
        case measure => simp [RowKit.intOf]; omega
      · have hltz : ¬ (i : Int) < (l.length : Int) := by omega
        have hL2 : Hid (L.map (·.1) = l.map rowQ) := hid (by rw [hL.out, List.take_of_length_le (by omega)])
        go_wp2
        go_ret2
        exact ⟨⟨_, L, hL2.out, rfl, hrow.out⟩, hB.out⟩
  · have hR1 : (R != 0) = true := by simpa using hR0
    have hR2 : (R == 0) = false := by simpa using hR0
    rw [if_pos hR0]
    clear hR
    go_enter Tryz.func9, Tryz.ntmps9
    go_wp2_with fail
    refine CV.out.mono ?_
    rintro e w1 ⟨rfl, hb⟩
    have HB1 := hid hb
    clear hb CV
    go_wp2
    go_ret2
    exact ⟨⟨_, [], rfl, rfl, RowsF.nil _ _⟩, HB1.out⟩
theorem qrwrite_any (A : Option Addr) (l : List ReqD) (c : Nat) (w : World) (h : ReqsIn w (fun k => k < w.heap.size) A l) :
    Calls Tryz.prog 9 #[.slice A l.length c] w (WriteOut (writeQ l) w) :=
  (qrwriteF_any A l c w h).mono fun e w' ⟨⟨v, L, h1, h2, h3⟩, h4⟩ => ⟨⟨v, L, h1, h2, h3.1⟩, h4⟩
end Go.Proofs.YtlgmanbilaminaaGreatDoor.S12
