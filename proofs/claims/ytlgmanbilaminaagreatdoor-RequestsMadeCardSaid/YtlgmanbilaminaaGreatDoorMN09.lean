/-
  The program's Join: its contract (joinM). Conditions: the library's variables hold what its text lays; the list of strings lies in memory. Rooms as data: what .. Conditions: as stated.
-/
import Derived.Test.YtlgmanbilaminaaGreatDoorMN06
import Derived.Test.YtlgmanbilaminaaGreatDoorMN08
set_option linter.unusedVariables false
namespace Go.Proofs.YtlgmanbilaminaaGreatDoor.S3
open Go Go.Proofs Go.RowKit Go.Lib
theorem joinP_fuel : ∀ (n : Nat) (l : List Str) (k : Nat), l.length ≤ n → l.length ≤ k → joinP k l = joinP n l
  | 0, l, k, h, _ => by
    obtain rfl : l = [] := List.eq_nil_of_length_eq_zero (by omega)
    cases k <;> rfl
  | n + 1, [], k, _, _ => by cases k <;> rfl
  | n + 1, f :: r, 0, _, h => by simp at h
  | n + 1, f :: r, k + 1, h1, h2 => by
    simp only [List.length_cons] at h1 h2
    have hp := ahead_pos f r
    have ih1 := joinP_fuel n ((f :: r).drop (aheadM (f :: r))) k (by simp; omega) (by simp; omega)
    have ih2 := joinP_fuel n r k (by omega) (by omega)
    simp only [joinP]
    rw [ih1, ih2]
def partsL (l : List Str) : List Str := joinP l.length l
theorem partsL_nil : partsL [] = [] := rfl
theorem partsL_range (f : Str) (r : List Str) (h : 3 ≤ aheadM (f :: r)) : partsL (f :: r) = rangeT f (aheadM (f :: r)) :: partsL ((f :: r).drop (aheadM (f :: r))) := by
  unfold partsL
  show joinP (r.length + 1) (f :: r) = _
  simp only [joinP]
  rw [if_pos h]
  congr 1
  have hp := ahead_pos f r
  exact joinP_fuel _ _ _ (Nat.le_refl _) (by simp; omega)
theorem partsL_one (f : Str) (r : List Str) (h : ¬ 3 ≤ aheadM (f :: r)) : partsL (f :: r) = f :: partsL r := by
  unfold partsL
  show joinP (r.length + 1) (f :: r) = _
  simp only [joinP]
  rw [if_neg h]
theorem partsL_len : ∀ (n : Nat) (l : List Str), l.length ≤ n → (partsL l).length ≤ l.length
  | 0, l, h => by
    obtain rfl : l = [] := List.eq_nil_of_length_eq_zero (by omega)
    simp [partsL_nil]
  | n + 1, [], _ => by simp [partsL_nil]
  | n + 1, f :: r, h => by
    simp only [List.length_cons] at h
    have hp := ahead_pos f r
    by_cases h3 : 3 ≤ aheadM (f :: r)
    · rw [partsL_range f r h3]
      have := partsL_len n ((f :: r).drop (aheadM (f :: r))) (by simp; omega)
      simp at this ⊢
      omega
    · rw [partsL_one f r h3]
      have := partsL_len n r (by omega)
      simp
      omega
theorem semi_join : ∀ l : List Str, Lib.join l [59] = semi l
  | [] => rfl
  | [p] => by rw [Lib.join_one]; rfl
  | p :: q :: r => by
    have ih := semi_join (q :: r)
    rw [Lib.join_cons] at ih ⊢
    show p ++ Lib.joinTail [59] (q :: r) = p ++ 59 :: semi (q :: r)
    rw [← ih]
    simp [Lib.joinTail]
theorem semi_len : ∀ (l : List Str), (∀ p ∈ l, p.length ≤ 40) → (semi l).length ≤ 41 * l.length
  | [], _ => by simp [semi]
  | [p], h => by have := h p (.head _); simp [semi]; omega
  | p :: q :: r, h => by
    have ih := semi_len (q :: r) (fun x hx => h x (.tail _ hx))
    have := h p (.head _)
    show (p ++ 59 :: semi (q :: r)).length ≤ _
    simp at ih ⊢
    omega
theorem parts_short : ∀ (n : Nat) (l : List Str), l.length ≤ n → (∀ c ∈ l, validC c = true) → ∀ p ∈ partsL l, p.length ≤ 40
  | 0, l, h, _, p, hp => by
    obtain rfl : l = [] := List.eq_nil_of_length_eq_zero (by omega)
    simp [partsL_nil] at hp
  | n + 1, [], _, _, p, hp => by simp [partsL_nil] at hp
  | n + 1, f :: r, h, hv, p, hp => by
    simp only [List.length_cons] at h
    have hpos := ahead_pos f r
    by_cases h3 : 3 ≤ aheadM (f :: r)
    · rw [partsL_range f r h3] at hp
      rcases List.mem_cons.1 hp with rfl | hp
      · have hnv : validC (nthS f (aheadM (f :: r) - 1)) = true := by
          have := ahead_nth f r (aheadM (f :: r) - 2) (by omega)
          rw [show aheadM (f :: r) - 2 + 1 = aheadM (f :: r) - 1 by omega] at this
          exact hv _ (List.mem_cons_of_mem _ (List.mem_of_getElem? this))
        have h1 := validC_len (hv f (.head _))
        have h2 := validC_len hnv
        unfold rangeT
        simp
        omega
      · exact parts_short n _ (by simp; omega) (fun c hc => hv c (List.mem_of_mem_drop hc)) p hp
    · rw [partsL_one f r h3] at hp
      rcases List.mem_cons.1 hp with rfl | hp
      · have := validC_len (hv p (.head _)); omega
      · exact parts_short n r (by omega) (fun c hc => hv c (.tail _ hc)) p hp
def sliceLen : Value → Nat | .slice _ n _ => n | _ => 0
def JoinOut (l : List Str) (w : World) (e : Ending) (w' : World) : Prop :=
  e = .returned (.tuple #[.string (ba (if checkM l = 0 then joinM l else [])), .int .i64 (checkM l)]) ∧ Below w.heap.size w w'
theorem ba_app (a b : Str) : ba a ++ ba b = ba (a ++ b) := by
  apply ByteArray.ext
  simp [ba]
theorem ba_size (a : Str) : (ba a).size = a.length := by
  show a.toArray.size = _
  simp
theorem StrsIn.rest {w : World} {P : Nat → Prop} {A : Option Addr} {l : List Str} (h : StrsIn w P A l) (n c : Nat) (hlc : l.length ≤ c) : StrsIn w P (if c = n then A else A.map (·.add n)) (l.drop n) := by
  by_cases hn : n < l.length
  · rw [if_neg (by omega)]
    rcases h with h | ⟨b, off, rfl, hP, hc⟩
    · subst h; simp at hn
    · refine .inr ⟨b, off + n, by rw [Option.map_some, Addr.add_lit], hP, fun j s hj => ?_⟩
      rw [List.getElem?_drop] at hj
      rw [show off + n + j = off + (n + j) by omega]
      exact hc _ _ hj
  · exact .inl (List.drop_of_length_le (by omega))
theorem strs_rest {w : World} {P : Nat → Prop} {b off : Nat} {l : List Str} (h : StrsIn w P (some ⟨b, off, none⟩) l) (n c : Nat) (hlc : l.length ≤ c) : StrsIn w P (if c = n then some ⟨b, off, none⟩ else some ⟨b, off + n, none⟩) (l.drop n) := by
  have := h.rest n c hlc
  rwa [Option.map_some, Addr.add_lit] at this
set_option maxHeartbeats 8000000 in
set_option maxRecDepth 100000 in
theorem cjoin_any (A : Option Addr) (l : List Str) (c : Nat) (w : World) (h : StrsIn w (fun b => b < w.heap.size) A l) (hlc : l.length ≤ c) (hc : c ≤ 9223372036854775807) (hE : Env w) :
    Calls Tryz.prog 73 #[.slice A l.length c] w (JoinOut l w) := by
  have cC := hid (check_any A l c _ w h hlc hc)
  by_cases hk : checkM l = 0
  · obtain ⟨h64, hv⟩ := check_valid hk
    have HV := hid hv
    unfold JoinOut
    rw [if_pos hk, hk]
    rw [hk] at cC
    have H : Hid (∀ w' : World, Below w.heap.size w w' → StrsIn w' (fun b => b < w.heap.size) A l) := hid (fun w' hb => h.kept (fun b hlt => hb.block b hlt))
    have HE := hid hE
    have HS : Hid (joinM l = semi (partsL l)) := hid rfl
    have HP4 := hid (parts_short _ l (Nat.le_refl _) hv)
    have HPL := hid (partsL_len _ l (Nat.le_refl _))
    rw [HS.out]
    obtain ⟨i9, hi9, hz9, hsi9, hby9⟩ := info_parts infoStr
    clear h hv hE hk
    go_enter Tryz.func73, Tryz.ntmps73
    go_wp2_with fail
    refine cC.out.mono ?_
    rintro e w1 ⟨rfl, rfl⟩
    go_wp2_with fail
    go_loopw [0, 5] (fun sv v wr => ∃ (n c' : Nat) (A' : Option Addr) (ps : List Str), sv = .slice A' (l.drop n).length c' ∧ Hid (StrsIn wr (fun b => b < w.heap.size) A' (l.drop n)) ∧ (l.drop n).length ≤ c' ∧ c' ≤ 9223372036854775807 ∧ n ≤ l.length ∧ Hid (partsL l = ps ++ partsL (l.drop n)) ∧ StrRow wr w.heap.size v ps ∧ Hid (Below w.heap.size w wr)) (fun sv _ _ => sliceLen sv)
    case atStart => exact ⟨0, c, A, [], rfl, hid (H.out w (Below.refl _ _)), hlc, hc, by omega, hid rfl, World.ownsRow_nil _ _ _ _, hid (Below.refl _ _)⟩
    case round =>
      obtain ⟨n, c', A', ps, rfl, hIn, hlc', hc', hn, hps, hrow, hB⟩ := hrel
      obtain ⟨Ar, cr, rfl⟩ := row_slice hrow
      have HRow := hid hrow
      have HE1 := hid (HE.out.below hB.out)
      clear hrow
      have hpl : ps.length + (partsL (l.drop n)).length ≤ 64 := by
        have h1 := HPL.out
        have h2 := congrArg List.length hps.out
        rw [List.length_append] at h2
        omega
      cases hr : l.drop n with
      | nil =>
        rw [hr] at hps hIn hlc' hpl
        have HPS : Hid (partsL l = ps) := hid (by rw [hps.out, partsL_nil, List.append_nil])
        clear hr hps
        obtain ⟨A5, c5, eA, hl5, hc5, hI5⟩ := HRow.out.strsIn
        have hA5 : Hid (Ar = A5 ∧ cr = c5) := hid (by injection eA with e1 _ e3; exact ⟨e1, e3⟩)
        obtain ⟨rfl, rfl⟩ := hA5.out
        have cJ : Hid (Calls Tryz.prog 102 #[.slice Ar ps.length cr, .string ⟨#[59]⟩] wr fun e w' => e = .returned (.string (ba (semi ps))) ∧ Below wr.heap.size wr w') := hid (by
          rcases hI5 with h | ⟨b, off, rfl, hb, hcell⟩
          · subst h
            exact (Tryz.strings_Join_none Ar cr ⟨#[59]⟩ wr).mono fun e w' ⟨h1, h2⟩ => ⟨h1, h2 ▸ Below.refl _ _⟩
          · have hj := Tryz.strings_Join b off cr (ps.map ba) ⟨#[59]⟩ wr (fun j x hx => by
              rw [List.getElem?_map] at hx
              obtain ⟨y, hy, rfl⟩ := Option.map_eq_some_iff.1 hx
              exact hcell j y hy) hb.2 (by simp; omega) (by simpa using hl5) (by
              have e : (ps.map ba).map (·.data.toList) = ps := by simp [Function.comp_def, ba]
              rw [e, show (⟨#[59]⟩ : ByteArray).data.toList = [59] from rfl, semi_join]
              have := semi_len ps (fun p hp => HP4.out p (by rw [HPS.out]; exact hp))
              omega)
            have e : (ps.map ba).map (·.data.toList) = ps := by simp [Function.comp_def, ba]
            rw [e, show (⟨#[59]⟩ : ByteArray).data.toList = [59] from rfl, semi_join, List.length_map] at hj
            exact hj)
        clear eA hA5 hI5 hl5 hc5 hlc' hIn
        go_wp2_with fail
        refine cJ.out.mono ?_
        rintro e w2 ⟨rfl, hb2⟩
        have HB2 := hid (hB.out.trans (hb2.mono hB.out.size))
        clear hb2
        go_wp2_with fail
        go_ret2
        exact ⟨by rw [HPS.out]; rfl, HB2.out⟩
      | cons f r =>
        rw [hr] at hps hIn hlc' hpl
        have hdl : l.length - n = r.length + 1 := by
          have := congrArg List.length hr
          simpa using this
        have hvf : ∀ x ∈ f :: r, validC x = true := fun x hx => HV.out x (List.mem_of_mem_drop (by rw [hr]; exact hx))
        have hf16 := validC_len (hvf f (.head _))
        have hdd : ∀ j, (f :: r).drop j = l.drop (n + j) := fun j => by rw [← hr, List.drop_drop]
        have cA := hid (ahead_any A' f r c' (fun b => b < w.heap.size) wr hIn.out (fun b hb => Nat.lt_of_lt_of_le hb hB.out.size) (by omega) hf16 HE1.out)
        obtain ⟨b, off, rfl, hbl, hcell⟩ : ∃ b off, A' = some ⟨b, off, none⟩ ∧ b < w.heap.size ∧ ∀ (j : Nat) (s : Str), (f :: r)[j]? = some s → wr.cell? ⟨b, off + j, none⟩ = some (.string (ba s)) := by
          rcases hIn.out with h | h
          · cases h
          · exact h
        have hpos := ahead_pos f r
        have hR := partsL_range f r
        have hO := partsL_one f r
        have hnth := ahead_nth f r
        obtain ⟨run, hrun⟩ : ∃ run, aheadM (f :: r) = run := ⟨_, rfl⟩
        rw [hrun] at cA hpos hR hO hnth
        have hc0 := hcell 0 f rfl
        rw [Nat.add_zero] at hc0
        have HCELL := hid hcell
        have HR := hid hR
        have HO := hid hO
        have HNTH := hid hnth
        have HDD := hid hdd
        have HVF := hid hvf
        clear hcell hR hO hnth hdd hrun hr hvf
        go_wp2_with fail
        refine cA.out.mono ?_
        rintro e w2 ⟨rfl, hb2⟩
        have HB2 := hid (hB.out.trans (hb2.mono hB.out.size))
        have HIn2 : Hid (StrsIn w2 (fun b => b < w.heap.size) (some ⟨b, off, none⟩) (f :: r)) := hid (hIn.out.kept (fun b' hb' => hb2.block b' (Nat.lt_of_lt_of_le hb' hB.out.size)))
        have HRow2 : Hid (StrRow w2 w.heap.size _ ps) := hid (row_under HRow.out hb2)
        have HC2 : Hid (∀ (j : Nat) (s : Str), (f :: r)[j]? = some s → w2.cell? ⟨b, off + j, none⟩ = some (.string (ba s))) := hid (fun j s hj => (hb2.cell (p := ⟨b, off + j, none⟩) (Nat.lt_of_lt_of_le hbl hB.out.size)).trans (HCELL.out j s hj))
        clear hb2 cA HCELL HE1 HRow hIn hB
        by_cases h3 : 3 ≤ run
        · have hX : (f :: r)[run - 1]? = some (nthS f (run - 1)) := by
            have := HNTH.out (run - 2) (by omega)
            rw [show run - 2 + 1 = run - 1 by omega] at this
            rw [show run - 1 = run - 2 + 1 by omega, List.getElem?_cons_succ, this, show run - 2 + 1 = run - 1 by omega]
          have hXv := validC_len (HVF.out _ (List.mem_of_getElem? hX))
          have hcX := HC2.out _ _ hX
          have hc0' := HC2.out 0 f rfl
          rw [Nat.add_zero] at hc0'
          have HRT : Hid (rangeT f run = f ++ 46 :: 46 :: nthS f (run - 1)) := hid rfl
          obtain ⟨X, hXe⟩ : ∃ X, nthS f (run - 1) = X := ⟨_, rfl⟩
          rw [hXe] at hXv hcX HRT
          have add1 : ∀ w, (Op.stringOp .add (ba f) ⟨#[46, 46]⟩).run Tryz.prog w = .ok (.string (ba f ++ ⟨#[46, 46]⟩)) w := fun w => run_string_add_sum (w := w) _ _ (by rw [ba_size]; have : (⟨#[46, 46]⟩ : ByteArray).size = 2 := rfl; omega)
          have add2 : ∀ w, (Op.stringOp .add (ba f ++ ⟨#[46, 46]⟩) (ba X)).run Tryz.prog w = .ok (.string (ba f ++ ⟨#[46, 46]⟩ ++ ba X)) w := fun w => run_string_add_sum (w := w) _ _ (by rw [ByteArray.size_append, ba_size, ba_size]; have : (⟨#[46, 46]⟩ : ByteArray).size = 2 := rfl; omega)
          have hT : ba f ++ ⟨#[46, 46]⟩ ++ ba X = ba (rangeT f run) := by
            rw [HRT.out, show (⟨#[46, 46]⟩ : ByteArray) = ba [46, 46] from rfl, ba_app, ba_app]
            simp
          rw [hT] at add2
          obtain ⟨T, hTe⟩ : ∃ T, rangeT f run = T := ⟨_, rfl⟩
          rw [hTe] at add2
          have HT := hid hTe
          have h3z : (3 : Int) ≤ (run : Int) := by omega
          have q1 : IntKind.i64.wrap ((run : Int) - 1) = (run : Int) - 1 := IntWalk.i64_in _ (by omega)
          have q2 : (1 : Int) ≤ (run : Int) := by omega
          have q3 : ((run : Int) - 1).toNat = run - 1 := by omega
          have q4 : (run : Int) - 1 < (r.length : Int) + 1 := by omega
          clear hX hXe hT hTe
          go_wp2_with fail
          go_quiet (fail)
          have hd2 : Below w2.heap.size w2 (w2.drewN nq) := below_drewN (Below.refl _ _) nq
          have HB3 : Hid (Below w.heap.size w (w2.drewN nq)) := hid (below_drewN HB2.out nq)
          have HIn3 : Hid (StrsIn (w2.drewN nq) (fun b => b < w.heap.size) (some ⟨b, off, none⟩) (f :: r)) := hid (HIn2.out.kept (fun b' hb' => hd2.block b' (Nat.lt_of_lt_of_le hb' HB2.out.size)))
          have HRow3 : Hid (StrRow (w2.drewN nq) w.heap.size _ ps) := hid (row_under HRow2.out hd2)
          clear hd2 HB2 HIn2 HRow2 HC2 hc0' hcX add1 add2
          generalize w2.drewN nq = w3 at HB3 HIn3 HRow3 ⊢
          have HC3 : Hid (ps.length + 1 ≤ maxLen) := by unfold maxLen; exact hid (by omega)
          have HC4 : Hid ((ps.length + 1) * 16 ≤ 140737488355328) := hid (by omega)
          have HC5 : Hid (∀ o : Obj, w.heap.size ≤ (w3.alloc o).heap.size) := hid (fun o => by have := HB3.out.size; simp; omega)
          go_wp2_with (at_builtin; refine wpList_append_own _ rfl _ _ 40 rfl w.heap.size 9 i9 (.string ⟨#[]⟩) 1 16 Tryz.underlying40 hi9 hz9 hsi9 hby9 rfl (by decide) _ ps.length (strVals ps) rfl (World.ownsRow.alloc HRow3.out _) ⟨w3.heap.size, 0, none⟩ 1 1 [.string (ba T)] rfl rfl (one_new _ _ _) (one_str _) HC3.out HC4.out (HC5.out _) ?_)
          intro v' w4 hown' hgrow _
          have hg' := grownBy_of_alloc hgrow
          have hb24 : Below w.heap.size w3 w4 := (Below.refl _ w3).grown hg' HB3.out.size (fun k hk => (World.ownsRow.lt HRow3.out k hk).1)
          have HB4 := hid (HB3.out.trans hb24)
          have HIn4 : Hid (StrsIn w4 (fun b => b < w.heap.size) (if c' = run then some ⟨b, off, none⟩ else some ⟨b, off + run, none⟩) ((f :: r).drop run)) := hid (strs_rest (HIn3.out.kept (fun b' hb' => hb24.block b' hb')) run c' hlc')
          have HOwn := hid hown'
          clear hb24 hg' hgrow hown'
          go_wp2_with fail
          go_roundw
          case rel =>
            have hr1 : l.drop (n + run) = (f :: r).drop run := (HDD.out run).symm
            have hr2 : (l.drop (n + run)).length = r.length + 1 - run := by rw [hr1]; simp
            refine ⟨n + run, c' - run, _, ps ++ [T], by rw [hr2], hid (by rw [hr1]; exact HIn4.out), by rw [hr2]; simp at hlc'; omega, by omega, by omega, hid (by rw [hr1, hps.out, HR.out h3, HT.out]; simp), ?_, HB4⟩
            unfold StrRow
            rw [strVals_app, List.length_append]
            exact HOwn.out
          case measure => simp [sliceLen]; omega
        · have h3z : ¬ (3 : Int) ≤ (run : Int) := by omega
          have hc0' := HC2.out 0 f rfl
          rw [Nat.add_zero] at hc0'
          have HC3 : Hid (ps.length + 1 ≤ maxLen) := by unfold maxLen; exact hid (by omega)
          have HC4 : Hid ((ps.length + 1) * 16 ≤ 140737488355328) := hid (by omega)
          have HC5 : Hid (∀ o : Obj, w.heap.size ≤ (w2.alloc o).heap.size) := hid (fun o => by have := HB2.out.size; simp; omega)
          go_wp2_with (at_builtin; refine wpList_append_own _ rfl _ _ 40 rfl w.heap.size 9 i9 (.string ⟨#[]⟩) 1 16 Tryz.underlying40 hi9 hz9 hsi9 hby9 rfl (by decide) _ ps.length (strVals ps) rfl (World.ownsRow.alloc HRow2.out _) ⟨w2.heap.size, 0, none⟩ 1 1 [.string (ba f)] rfl rfl (one_new _ _ _) (one_str _) HC3.out HC4.out (HC5.out _) ?_)
          intro v' w4 hown' hgrow _
          have hg' := grownBy_of_alloc hgrow
          have hb24 : Below w.heap.size w2 w4 := (Below.refl _ w2).grown hg' HB2.out.size (fun k hk => (World.ownsRow.lt HRow2.out k hk).1)
          have HB4 := hid (HB2.out.trans hb24)
          have HIn4 : Hid (StrsIn w4 (fun b => b < w.heap.size) (if c' = 1 then some ⟨b, off, none⟩ else some ⟨b, off + 1, none⟩) ((f :: r).drop 1)) := hid (strs_rest (HIn2.out.kept (fun b' hb' => hb24.block b' hb')) 1 c' hlc')
          have HOwn := hid hown'
          clear hb24 hg' hgrow hown'
          go_wp2_with fail
          go_roundw
          case rel =>
            have hr1 : l.drop (n + 1) = r := (HDD.out 1).symm
            refine ⟨n + 1, c' - 1, _, ps ++ [f], by rw [hr1], hid (by rw [hr1]; exact HIn4.out), by rw [hr1]; simp at hlc'; omega, by omega, by omega, hid (by rw [hr1, hps.out, HO.out h3]; simp), ?_, HB4⟩
            unfold StrRow
            rw [strVals_app, List.length_append]
            exact HOwn.out
          case measure => simp [sliceLen]
  · unfold JoinOut
    rw [if_neg hk]
    have hkz : (checkM l == 0) = false := by simpa using hk
    have hkz' : (checkM l != 0) = true := by simpa using hk
    generalize checkM l = K at cC hkz hkz'
    clear h hE hk
    go_enter Tryz.func73, Tryz.ntmps73
    go_wp2_with fail
    refine cC.out.mono ?_
    rintro e w1 ⟨rfl, rfl⟩
    go_wp2_with fail
    go_ret2
    exact ⟨rfl, Below.refl _ _⟩
end Go.Proofs.YtlgmanbilaminaaGreatDoor.S3
namespace Go.Proofs.YtlgmanbilaminaaGreatDoor
open Go Go.Proofs Go.RowKit Go.Lib
def numD (D : Nat) (s : Str) : Nat := if s ≠ [] ∧ s.length ≤ D ∧ s.all S3.dg = true ∧ s.head? ≠ some 48 then S3.numN s else 0
theorem decFrom_dgs : ∀ (l : Str) (acc : Nat), l.all S3.dg = true → Lib.decFrom acc l = some (l.foldl (fun n c => 10 * n + (c.toNat - 48)) acc)
  | [], acc, _ => rfl
  | c :: r, acc, h => by
    rw [List.all_cons, Bool.and_eq_true] at h
    obtain ⟨h1, h2⟩ := h
    have h3 : 48 ≤ c.toNat ∧ c.toNat ≤ 57 := by simpa [S3.dg] using h1
    rw [Lib.decFrom, show Lib.digitVal c = some (c.toNat - 48) by simp [Lib.digitVal, h3]]
    rw [List.foldl_cons, ← decFrom_dgs r _ h2, Nat.mul_comm]
theorem decFrom_not : ∀ (l : Str) (acc : Nat), l.all S3.dg = false → Lib.decFrom acc l = none
  | [], acc, h => by simp at h
  | c :: r, acc, h => by
    rw [Lib.decFrom]
    by_cases hc : S3.dg c = true
    · have h3 : 48 ≤ c.toNat ∧ c.toNat ≤ 57 := by simpa [S3.dg] using hc
      rw [show Lib.digitVal c = some (c.toNat - 48) by simp [Lib.digitVal, h3]]
      exact decFrom_not r _ (by rw [List.all_cons, hc, Bool.true_and] at h; exact h)
    · have h3 : ¬ (48 ≤ c.toNat ∧ c.toNat ≤ 57) := by simpa [S3.dg] using hc
      rw [show Lib.digitVal c = none by simp [Lib.digitVal]; omega]
theorem numN_ge : ∀ (l : Str) (acc : Nat), acc ≤ l.foldl (fun n c => 10 * n + (c.toNat - 48)) acc
  | [], acc => Nat.le_refl _
  | c :: r, acc => by
    rw [List.foldl_cons]
    exact Nat.le_trans (by omega) (numN_ge r _)
theorem numN_pos (a : UInt8) (r : Str) (h : 49 ≤ a.toNat) : 0 < S3.numN (a :: r) := by
  unfold S3.numN
  rw [List.foldl_cons]
  exact Nat.lt_of_lt_of_le (by omega) (numN_ge r _)
theorem atoi_numD (D : Nat) (s : Str) (a : UInt8) (r : Str) (hs : s = a :: r) (hl : s.length ≤ D) (h : 49 ≤ a.toNat) : Lib.atoi s = if numD D s = 0 then none else some ((numD D s : Nat) : Int) := by
  subst hs
  rw [atoi_dec a r h]
  have hh : (a :: r).head? ≠ some 48 := by
    intro e
    simp at e
    subst e
    exact absurd h (by decide)
  by_cases hd : (a :: r).all S3.dg = true
  · have hN : numD D (a :: r) = S3.numN (a :: r) := if_pos ⟨by simp, hl, hd, hh⟩
    have := numN_pos a r h
    rw [hN, if_neg (by omega), decFrom_dgs _ _ hd]
    rfl
  · have hN : numD D (a :: r) = 0 := if_neg (fun k => hd k.2.2.1)
    rw [hN, if_pos rfl, decFrom_not _ _ (by simpa using hd)]
    rfl
theorem numD_long {D : Nat} {s : Str} (h : D < s.length) : numD D s = 0 := if_neg (fun k => by omega)
theorem numD_low {D : Nat} {a : UInt8} {r : Str} (h : a.toNat < 49) : numD D (a :: r) = 0 := by
  refine if_neg (fun k => ?_)
  obtain ⟨_, _, k3, k4⟩ := k
  have h1 : S3.dg a = true := (List.all_eq_true.1 k3) a (by simp)
  have h3 : 48 ≤ a.toNat ∧ a.toNat ≤ 57 := by simpa [S3.dg] using h1
  apply k4
  have : a = 48 := UInt8.toNat_inj.1 (by show a.toNat = 48; omega)
  subst this
  rfl
end Go.Proofs.YtlgmanbilaminaaGreatDoor
namespace Go.Proofs.YtlgmanbilaminaaGreatDoor.S12
open Go Go.Proofs Go.RowKit Go.Lib Go.Proofs.YtlgmanbilaminaaGreatDoor
def reqM (x : ReqD) : Int :=
  if S3.validC x.s = false then 10 else if S3.validC x.c = false then 10 else if x.p < 1 then 3 else if 9 < x.p then 3 else if 8 < x.l.length then 2 else S3.checkM (x.c :: x.l)
def addS (l : List Str) (s : Str) : List Str := if s ∈ l then l else l ++ [s]
def studs (l : List ReqD) : List Str := l.foldl (fun a r => addS a r.s) []
def wishes (l : List ReqD) : List (Str × Str) := l.map fun r => (r.s, r.c)
theorem studs_snoc (l : List ReqD) (r : ReqD) : studs (l ++ [r]) = addS (studs l) r.s := by unfold studs; rw [List.foldl_append]; rfl
theorem wishes_snoc (l : List ReqD) (r : ReqD) : wishes (l ++ [r]) = wishes l ++ [(r.s, r.c)] := by unfold wishes; rw [List.map_append]; rfl
theorem mem_addS (l : List Str) (s t : Str) : t ∈ addS l s ↔ t ∈ l ∨ t = s := by
  unfold addS
  split
  · exact ⟨.inl, fun h => h.elim id (fun e => e ▸ ‹_›)⟩
  · simp
theorem addS_nodup {l : List Str} {s : Str} (h : l.Nodup) : (addS l s).Nodup := by
  unfold addS
  split
  · exact h
  · rename_i hn
    exact List.nodup_append.2 ⟨h, by simp, fun a ha b hb => by simp at hb; subst hb; exact fun e => hn (e ▸ ha)⟩
theorem studs_fold_mem : ∀ (l : List ReqD) (a : List Str) (t : Str), t ∈ l.foldl (fun a r => addS a r.s) a ↔ t ∈ a ∨ ∃ r ∈ l, r.s = t
  | [], a, t => by simp
  | r :: l, a, t => by
    rw [List.foldl_cons, studs_fold_mem l, mem_addS]
    constructor
    · rintro ((h | h) | ⟨x, hx, e⟩)
      · exact .inl h
      · exact .inr ⟨r, by simp, h.symm⟩
      · exact .inr ⟨x, by simp [hx], e⟩
    · rintro (h | ⟨x, hx, e⟩)
      · exact .inl (.inl h)
      · rcases List.mem_cons.1 hx with rfl | hx
        · exact .inl (.inr e.symm)
        · exact .inr ⟨x, hx, e⟩
theorem mem_studs (l : List ReqD) (t : Str) : t ∈ studs l ↔ ∃ r ∈ l, r.s = t := by unfold studs; rw [studs_fold_mem]; simp
theorem studs_fold_nodup : ∀ (l : List ReqD) (a : List Str), a.Nodup → (l.foldl (fun a r => addS a r.s) a).Nodup
  | [], a, h => h
  | r :: l, a, h => by rw [List.foldl_cons]; exact studs_fold_nodup l _ (addS_nodup h)
theorem studs_nodup (l : List ReqD) : (studs l).Nodup := studs_fold_nodup l [] List.nodup_nil
theorem studs_fold_len : ∀ (l : List ReqD) (a : List Str), (l.foldl (fun a r => addS a r.s) a).length ≤ a.length + l.length
  | [], a => by simp
  | r :: l, a => by
    rw [List.foldl_cons]
    refine Nat.le_trans (studs_fold_len l _) ?_
    have : (addS a r.s).length ≤ a.length + 1 := by unfold addS; split <;> simp
    simp
    omega
theorem studs_len (l : List ReqD) : (studs l).length ≤ l.length := by unfold studs; have := studs_fold_len l []; simpa using this
def accM (pre : List ReqD) (r : ReqD) : Int := if r.s ∉ studs pre ∧ (studs pre).length = 64 then 2 else if (r.s, r.c) ∈ wishes pre then 11 else if pre.length = 400 then 2 else 0
def goQ : List ReqD → List ReqD → Int
  | _, [] => 0
  | pre, r :: rs => if reqM r ≠ 0 then reqM r else if accM pre r ≠ 0 then accM pre r else goQ (pre ++ [r]) rs
def validQ (l : List ReqD) : Int := if 400 < l.length then 2 else goQ [] l
theorem goQ_step (l : List ReqD) (i : Nat) (h : i < l.length) :
    goQ (l.take i) (l.drop i) = if reqM l[i] ≠ 0 then reqM l[i] else if accM (l.take i) l[i] ≠ 0 then accM (l.take i) l[i] else goQ (l.take (i + 1)) (l.drop (i + 1)) := by
  rw [List.drop_eq_getElem_cons h, goQ, List.take_succ_eq_append_getElem h]
theorem accM_zero {pre : List ReqD} {r : ReqD} (h : accM pre r = 0) : ¬ (r.s ∉ studs pre ∧ (studs pre).length = 64) ∧ (r.s, r.c) ∉ wishes pre ∧ pre.length ≠ 400 := by
  unfold accM at h
  split at h
  · simp at h
  · rename_i h1
    split at h
    · simp at h
    · rename_i h2
      split at h
      · simp at h
      · rename_i h3
        exact ⟨h1, h2, h3⟩
theorem studs_64 {pre : List ReqD} {r : ReqD} (h : accM pre r = 0) (hp : (studs pre).length ≤ 64) : (studs (pre ++ [r])).length ≤ 64 := by
  obtain ⟨h1, _, _⟩ := accM_zero h
  rw [studs_snoc]
  unfold addS
  split
  · exact hp
  · rename_i hn
    have : (studs pre).length ≠ 64 := fun e => h1 ⟨hn, e⟩
    simp
    omega
theorem goQ_ok : ∀ (l pre : List ReqD), goQ pre l = 0 → ∀ r ∈ l, reqM r = 0
  | [], _, _, r, hr => by simp at hr
  | x :: xs, pre, h, r, hr => by
    unfold goQ at h
    by_cases h1 : reqM x = 0
    · rw [if_neg (by simpa using h1)] at h
      split at h
      · rename_i h2; exact absurd h h2
      · rcases List.mem_cons.1 hr with rfl | hr
        · exact h1
        · exact goQ_ok xs _ h r hr
    · rw [if_pos h1] at h
      exact absurd h h1
theorem validQ_ok {l : List ReqD} (h : validQ l = 0) : l.length ≤ 400 ∧ ∀ r ∈ l, reqM r = 0 := by
  unfold validQ at h
  split at h
  · simp at h
  · exact ⟨by omega, goQ_ok l [] h⟩
theorem reqM_all {x : ReqD} (h : reqM x = 0) : S3.validC x.s = true ∧ S3.validC x.c = true ∧ 1 ≤ x.p ∧ x.p ≤ 9 ∧ x.l.length ≤ 8 ∧ S3.checkM (x.c :: x.l) = 0 := by
  unfold reqM at h
  cases hv : S3.validC x.s with
  | false => rw [if_pos hv] at h; simp at h
  | true =>
    rw [if_neg (by simp [hv])] at h
    cases hc : S3.validC x.c with
    | false => rw [if_pos hc] at h; simp at h
    | true =>
      rw [if_neg (by simp [hc])] at h
      by_cases h1 : x.p < 1
      · rw [if_pos h1] at h; simp at h
      · rw [if_neg h1] at h
        by_cases h2 : 9 < x.p
        · rw [if_pos h2] at h; simp at h
        · rw [if_neg h2] at h
          by_cases h3 : 8 < x.l.length
          · rw [if_pos h3] at h; simp at h
          · rw [if_neg h3] at h
            exact ⟨rfl, rfl, by omega, by omega, by omega, h⟩
theorem reqM_of {x : ReqD} (h1 : S3.validC x.s = true) (h2 : S3.validC x.c = true) (h3 : 1 ≤ x.p) (h4 : x.p ≤ 9) (h5 : x.l.length ≤ 8) (h6 : S3.checkM (x.c :: x.l) = 0) : reqM x = 0 := by
  unfold reqM
  rw [if_neg (by simp [h1]), if_neg (by simp [h2]), if_neg (by omega), if_neg (by omega), if_neg (by omega)]
  exact h6
theorem checkGo_mono : ∀ (l a b : List Str), S3.checkGo (a ++ b) l = 0 → S3.checkGo b l = 0
  | [], _, _, _ => rfl
  | x :: xs, a, b, h => by
    unfold S3.checkGo at h ⊢
    split at h
    · simp at h
    · rename_i h1
      rw [if_neg h1]
      split at h
      · simp at h
      · rename_i h2
        rw [if_neg (fun k => h2 (by simp [k]))]
        rw [List.append_assoc] at h
        exact checkGo_mono xs a _ h
theorem check_tail {c : Str} {l : List Str} (h : S3.checkM (c :: l) = 0) : S3.checkM l = 0 ∧ c ∉ l := by
  unfold S3.checkM at h ⊢
  rw [List.length_cons] at h
  by_cases h64 : 64 < l.length + 1
  · rw [if_pos h64] at h; simp at h
  · rw [if_neg h64] at h
    rw [if_neg (by omega)]
    unfold S3.checkGo at h
    split at h
    · simp at h
    · rw [if_neg (by simp)] at h
      refine ⟨checkGo_mono l [c] [] (by simpa using h), ?_⟩
      have go : ∀ (l seen : List Str), S3.checkGo seen l = 0 → ∀ x ∈ seen, x ∉ l := by
        intro l
        induction l with
        | nil => intro _ _ x _; simp
        | cons y ys ih =>
          intro seen hs x hx
          unfold S3.checkGo at hs
          split at hs
          · simp at hs
          · split at hs
            · simp at hs
            · rename_i hy
              intro hm
              rcases List.mem_cons.1 hm with rfl | hm
              · exact hy hx
              · exact ih _ hs x (by simp [hx]) hm
      exact go l _ h c (by simp)
def rowQ (x : ReqD) : List Str := [x.s, x.c, decDigits x.p.toNat, S3.joinM x.l]
def writeQ (l : List ReqD) : List (List Str) × Int := if validQ l ≠ 0 then ([], validQ l) else (l.map rowQ, 0)
def fewM (x : Str) : List Str × Int := if (S3.listM x).2 ≠ 0 then ([], (S3.listM x).2) else if 8 < (S3.listM x).1.length then ([], 2) else ((S3.listM x).1, 0)
def insteadM (x c : Str) : List Str × Int := if (fewM x).2 ≠ 0 then ([], (fewM x).2) else if c ∈ (fewM x).1 then ([], 11) else ((fewM x).1, 0)
def priM (x : Str) : Int × Int := if numD 1 x = 0 then (0, 4) else ((numD 1 x : Nat), 0)
def setF (i : Nat) (x : Str) (r : ReqD) : ReqD × Int :=
  match i with
  | 0 => if S3.validC x = true then ({ r with s := x }, 0) else ({ r with s := [] }, 10)
  | 1 => if S3.validC x = true then ({ r with c := x }, 0) else ({ r with c := [] }, 10)
  | 2 => ({ r with p := (priM x).1 }, (priM x).2)
  | 3 => ({ r with l := (insteadM x r.c).1 }, (insteadM x r.c).2)
  | _ => (r, 0)
def zeroR : ReqD := ⟨[], [], 0, []⟩
def efold : List FieldD → Nat → ReqD → ReqD × Int × Int
  | [], _, r => (r, 0, 0)
  | f :: fs, i, r => if (setF i f.1 r).2 ≠ 0 then ((setF i f.1 r).1, f.2.1, (setF i f.1 r).2) else efold fs (i + 1) (setF i f.1 r).1
def entryM (fs : List FieldD) : ReqD × Int × Int := if fs.length ≠ 4 then (zeroR, 0, 9) else efold fs 0 zeroR
theorem efold_step (fs : List FieldD) (i : Nat) (h : i < fs.length) (r : ReqD) :
    efold (fs.drop i) i r = if (setF i fs[i].1 r).2 ≠ 0 then ((setF i fs[i].1 r).1, fs[i].2.1, (setF i fs[i].1 r).2) else efold (fs.drop (i + 1)) (i + 1) (setF i fs[i].1 r).1 := by
  rw [List.drop_eq_getElem_cons h, efold]
def recM (st : List ReqD × List ProbD) (x : RecD) : List ReqD × List ProbD :=
  if (entryM x.2).2.2 ≠ 0 then (st.1, st.2 ++ [(x.1, (entryM x.2).2.1, (entryM x.2).2.2)])
  else if accM st.1 (entryM x.2).1 ≠ 0 then (st.1, st.2 ++ [(x.1, (entryM x.2).2.1, accM st.1 (entryM x.2).1)])
  else (st.1 ++ [(entryM x.2).1], st.2)
def recsM (l : List RecD) : List ReqD × List ProbD := l.foldl (recM) ([], [])
theorem recsM_take (l : List RecD) (i : Nat) (h : i < l.length) : recsM (l.take (i + 1)) = recM (recsM (l.take i)) l[i] := by
  unfold recsM
  rw [List.take_succ_eq_append_getElem h, List.foldl_append]
  rfl
def Few (l : List ReqD) : Prop := l.length ≤ 400 ∧ (studs l).length ≤ 64
theorem recM_few (st : List ReqD × List ProbD) (x : RecD) (h : Few st.1) : Few (recM st x).1 := by
  unfold recM
  split
  · exact h
  · split
    · exact h
    · rename_i h2
      have h3 : accM st.1 (entryM x.2).1 = 0 := by simpa using h2
      refine ⟨?_, studs_64 h3 h.2⟩
      have := (accM_zero h3).2.2
      have := h.1
      simp
      omega
theorem recsM_few (l : List RecD) : Few (recsM l).1 := by
  unfold recsM
  have : ∀ (l : List RecD) (st : List ReqD × List ProbD), Few st.1 → Few (l.foldl (recM) st).1 := by
    intro l
    induction l with
    | nil => exact fun st h => h
    | cons x r ih => exact fun st h => ih _ (recM_few st x h)
  exact this l _ ⟨by simp, by simp [studs]⟩
theorem recsM_probs (l : List RecD) : (recsM l).2.length ≤ l.length := by
  unfold recsM
  have : ∀ (l : List RecD) (st : List ReqD × List ProbD), (l.foldl (recM) st).2.length ≤ st.2.length + l.length := by
    intro l
    induction l with
    | nil => exact fun st => Nat.le_refl _
    | cons x r ih =>
      intro st
      rw [List.foldl_cons]
      refine Nat.le_trans (ih _) ?_
      have : (recM st x).2.length ≤ st.2.length + 1 := by
        unfold recM
        split
        · simp
        · split <;> simp
      simp
      omega
  simpa using this l ([], [])
theorem setF_size (K : Nat) (hK : 0 < K) (i : Nat) (x : Str) (r : ReqD) (hx : x.length < K) (hr : r.s.length < K ∧ r.c.length < K) : (setF i x r).1.s.length < K ∧ (setF i x r).1.c.length < K := by
  match i with
  | 0 => simp only [setF]; split <;> exact ⟨by simp_all, hr.2⟩
  | 1 => simp only [setF]; split <;> exact ⟨hr.1, by simp_all⟩
  | 2 => exact hr
  | 3 => exact hr
  | j + 4 => exact hr
theorem efold_size (K : Nat) (hK : 0 < K) : ∀ (fs : List FieldD) (i : Nat) (r : ReqD), (∀ f ∈ fs, f.1.length < K) → (r.s.length < K ∧ r.c.length < K) → (efold fs i r).1.s.length < K ∧ (efold fs i r).1.c.length < K
  | [], _, r, _, hr => hr
  | f :: fs, i, r, h, hr => by
    unfold efold
    have h1 := setF_size K hK i f.1 r (h f (by simp)) hr
    split
    · exact h1
    · exact efold_size K hK fs (i + 1) _ (fun g hg => h g (by simp [hg])) h1
theorem entryM_size (K : Nat) (hK : 0 < K) (fs : List FieldD) (h : ∀ f ∈ fs, f.1.length < K) : (entryM fs).1.s.length < K ∧ (entryM fs).1.c.length < K := by
  unfold entryM
  split
  · exact ⟨hK, hK⟩
  · exact efold_size K hK fs 0 zeroR h ⟨hK, hK⟩
end Go.Proofs.YtlgmanbilaminaaGreatDoor.S12
namespace Go.Proofs.YtlgmanbilaminaaGreatDoor.S11
open Go Go.Proofs Go.RowKit Go.Lib Go.Proofs.YtlgmanbilaminaaGreatDoor
set_option maxHeartbeats 2000000 in
set_option maxRecDepth 100000 in
theorem has_any (A : Option Addr) (l : List Str) (c : Nat) (x : ByteArray) (P : Nat → Prop) (w : World) (h : S3.StrsIn w P A l) (h63 : l.length ≤ 9223372036854775807) :
    Calls Tryz.prog 84 #[.slice A l.length c, .string x] w fun e w' => e = .returned (.bool (decide (lst x ∈ l))) ∧ w = w' := by
  obtain ⟨ANS, hA⟩ : ∃ ANS, decide (lst x ∈ l) = ANS := ⟨_, rfl⟩
  rw [hA]
  have HA : Hid (decide (lst x ∈ l.drop 0) = ANS) := hid hA
  have HH := hid h
  clear h hA
  go_enter Tryz.func84, Tryz.ntmps84
  go_wp2
  go_loop [5] (fun iv => ∃ i : Nat, iv = .int .i64 (i : Int) ∧ i ≤ l.length ∧ Hid (decide (lst x ∈ l.drop i) = ANS)) (fun iv => l.length - (RowKit.intOf iv).toNat)
  case atStart => exact ⟨0, rfl, Nat.zero_le _, HA⟩
  case round =>
    obtain ⟨i, rfl, hi, hE⟩ := hrel
    by_cases hlt : i < l.length
    · have hltz : (i : Int) < (l.length : Int) := by omega
      have dk : decide (l.length ≤ i) = false := decide_eq_false (by omega)
      obtain ⟨b1, o1, rfl, _, hc1⟩ := HH.out.at_ hlt
      have hst := hE.out
      rw [List.drop_eq_getElem_cons hlt] at hst
      obtain ⟨y, hy⟩ : ∃ y, l[i] = y := ⟨_, rfl⟩
      rw [hy] at hc1 hst
      obtain ⟨Y, hY⟩ : ∃ Y : ByteArray, (⟨y.toArray⟩ : ByteArray) = Y := ⟨_, rfl⟩
      have hYl : Y.toList = y := by rw [Lib.toList_data, ← hY]
      have hXl : x.toList = lst x := Lib.toList_data x
      have e1 : S3.strV y = .string Y := by rw [← hY]; rfl
      rw [e1] at hc1
      by_cases hxy : y = lst x
      · have hbe : (Y.toList == x.toList) = true := by rw [hXl, hYl, hxy]; simp
        have HST : Hid (ANS = true) := hid (by rw [← hst, hxy]; simp)
        clear hy hY hYl hXl e1 hst hE hxy
        go_wp2
        go_ret
        exact ⟨by rw [HST.out]; rfl, rfl⟩
      · have hbe : (Y.toList == x.toList) = false := by rw [hXl, hYl]; simpa using hxy
        have HST : Hid (decide (lst x ∈ l.drop (i + 1)) = ANS) := hid (by rw [← hst]; simp [Ne.symm hxy])
        clear hy hY hYl hXl e1 hst hE hxy
        go_wp2
        go_round
        case rel => exact ⟨i + 1, by go_num, by omega, HST⟩
        case measure => simp [RowKit.intOf]; omega
    · have hltz : ¬ (i : Int) < (l.length : Int) := by omega
      have HST : Hid (ANS = false) := hid (by rw [← hE.out, List.drop_of_length_le (by omega)]; simp)
      clear hE
      go_wp2
      go_ret
      exact ⟨by rw [HST.out]; rfl, rfl⟩
set_option maxHeartbeats 2000000 in
set_option maxRecDepth 100000 in
theorem rhas_any (A : Option Addr) (l : List Str) (c : Nat) (x : ByteArray) (P : Nat → Prop) (w : World) (h : S3.StrsIn w P A l) (h63 : l.length ≤ 9223372036854775807) :
    Calls Tryz.prog 45 #[.slice A l.length c, .string x] w fun e w' => e = .returned (.bool (decide (lst x ∈ l))) ∧ w = w' := by
  obtain ⟨ANS, hA⟩ : ∃ ANS, decide (lst x ∈ l) = ANS := ⟨_, rfl⟩
  rw [hA]
  have HA : Hid (decide (lst x ∈ l.drop 0) = ANS) := hid hA
  have HH := hid h
  clear h hA
  go_enter Tryz.func45, Tryz.ntmps45
  go_wp2
  go_loop [5] (fun iv => ∃ i : Nat, iv = .int .i64 (i : Int) ∧ i ≤ l.length ∧ Hid (decide (lst x ∈ l.drop i) = ANS)) (fun iv => l.length - (RowKit.intOf iv).toNat)
  case atStart => exact ⟨0, rfl, Nat.zero_le _, HA⟩
  case round =>
    obtain ⟨i, rfl, hi, hE⟩ := hrel
    by_cases hlt : i < l.length
    · have hltz : (i : Int) < (l.length : Int) := by omega
      have dk : decide (l.length ≤ i) = false := decide_eq_false (by omega)
      obtain ⟨b1, o1, rfl, _, hc1⟩ := HH.out.at_ hlt
      have hst := hE.out
      rw [List.drop_eq_getElem_cons hlt] at hst
      obtain ⟨y, hy⟩ : ∃ y, l[i] = y := ⟨_, rfl⟩
      rw [hy] at hc1 hst
      obtain ⟨Y, hY⟩ : ∃ Y : ByteArray, (⟨y.toArray⟩ : ByteArray) = Y := ⟨_, rfl⟩
      have hYl : Y.toList = y := by rw [Lib.toList_data, ← hY]
      have hXl : x.toList = lst x := Lib.toList_data x
      have e1 : S3.strV y = .string Y := by rw [← hY]; rfl
      rw [e1] at hc1
      by_cases hxy : y = lst x
      · have hbe : (Y.toList == x.toList) = true := by rw [hXl, hYl, hxy]; simp
        have HST : Hid (ANS = true) := hid (by rw [← hst, hxy]; simp)
        clear hy hY hYl hXl e1 hst hE hxy
        go_wp2
        go_ret
        exact ⟨by rw [HST.out]; rfl, rfl⟩
      · have hbe : (Y.toList == x.toList) = false := by rw [hXl, hYl]; simpa using hxy
        have HST : Hid (decide (lst x ∈ l.drop (i + 1)) = ANS) := hid (by rw [← hst]; simp [Ne.symm hxy])
        clear hy hY hYl hXl e1 hst hE hxy
        go_wp2
        go_round
        case rel => exact ⟨i + 1, by go_num, by omega, HST⟩
        case measure => simp [RowKit.intOf]; omega
    · have hltz : ¬ (i : Int) < (l.length : Int) := by omega
      have HST : Hid (ANS = false) := hid (by rw [← hE.out, List.drop_of_length_le (by omega)]; simp)
      clear hE
      go_wp2
      go_ret
      exact ⟨by rw [HST.out]; rfl, rfl⟩
end Go.Proofs.YtlgmanbilaminaaGreatDoor.S11
namespace Go.Proofs.YtlgmanbilaminaaGreatDoor.S11
open Go Go.Proofs Go.RowKit Go.Lib Go.Proofs.YtlgmanbilaminaaGreatDoor Go.Proofs.YtlgmanbilaminaaGreatDoor.S10
def courses1 (acc : List Str) (x : ClassD) : List Str := if x.course ∈ acc then acc else acc ++ [x.course]
def coursesOf (l : List ClassD) : List Str := l.foldl courses1 []
theorem coursesOf_take (l : List ClassD) (i : Nat) (h : i < l.length) : coursesOf (l.take (i + 1)) = courses1 (coursesOf (l.take i)) l[i] := by
  unfold coursesOf
  rw [List.take_succ_eq_append_getElem h, List.foldl_append]
  rfl
theorem courses1_nodup {acc : List Str} {x : ClassD} (h : acc.Nodup) : (courses1 acc x).Nodup := by
  unfold courses1
  split
  · exact h
  · rename_i hn
    rw [List.nodup_append]
    refine ⟨h, by simp, fun a ha b hb => ?_⟩
    rw [List.mem_singleton] at hb
    subst hb
    exact fun e => hn (e ▸ ha)
theorem coursesOf_go : ∀ (l : List ClassD) (acc : List Str), acc.Nodup → (l.foldl courses1 acc).Nodup ∧ (l.foldl courses1 acc).length ≤ acc.length + l.length ∧ ∀ s ∈ l.foldl courses1 acc, s ∈ acc ∨ ∃ x ∈ l, x.course = s
  | [], acc, h => ⟨h, Nat.le_refl _, fun s hs => .inl hs⟩
  | x :: r, acc, h => by
    obtain ⟨h1, h2, h3⟩ := coursesOf_go r (courses1 acc x) (courses1_nodup h)
    have hl : (courses1 acc x).length ≤ acc.length + 1 := by unfold courses1; split <;> simp
    refine ⟨h1, by rw [List.length_cons]; show (List.foldl courses1 (courses1 acc x) r).length ≤ _; omega, fun s hs => ?_⟩
    rcases h3 s hs with h4 | ⟨y, hy, e⟩
    · unfold courses1 at h4
      split at h4
      · exact .inl h4
      · rcases List.mem_append.1 h4 with h5 | h5
        · exact .inl h5
        · rw [List.mem_singleton] at h5
          exact .inr ⟨x, by simp, h5.symm⟩
    · exact .inr ⟨y, by simp [hy], e⟩
theorem coursesOf_len (l : List ClassD) : (coursesOf l).length ≤ l.length := by
  have := (coursesOf_go l [] (by simp)).2.1
  simpa [coursesOf] using this
structure KCO (w0 : World) (L : List Str) (v : Value) (w : World) : Prop where
  r : S3.StrRow w w0.heap.size v L
  b : Below w0.heap.size w0 w
theorem KCO.app {w0 w w' : World} {L L' : List Str} {v v' : Value} (h : KCO w0 L v w) (hg : w.grownBy w' v.ownBlock) (hr : S3.StrRow w' w0.heap.size v' L') : KCO w0 L' v' w' :=
  ⟨hr, h.b.grown hg h.b.size (fun k hk => (World.ownsRow.lt h.r k hk).1)⟩
set_option maxHeartbeats 8000000 in
set_option maxRecDepth 100000 in
theorem courses_any (A : Option Addr) (l : List ClassD) (c : Nat) (w : World) (h : ClassesIn w (fun k => k < w.heap.size) A l) (hl : l.length ≤ 100) :
    Calls Tryz.prog 52 #[.slice A l.length c] w (S3.RowOut (coursesOf l) w) := by
  obtain ⟨i9, hi9, hz9, hsi9, hby9⟩ := info_parts S3.infoStr
  have H0 : Hid (KCO w [] (.slice none 0 0) w) := hid ⟨World.ownsRow_nil _ _ _ _, Below.refl _ _⟩
  have HH := hid (fun (W : World) (hb : Below w.heap.size w W) => h.below hb)
  clear h
  unfold S3.RowOut
  go_enter Tryz.func52, Tryz.ntmps52
  go_wp2
  go_loopw [3, 4] (fun v iv wr => ∃ (i n : Nat) (Ar : Option Addr) (cr : Nat), v = .slice Ar n cr ∧ iv = .int .i64 (i : Int) ∧ i ≤ l.length ∧ n ≤ i ∧ Hid ((coursesOf (l.take i)).length = n) ∧ Hid (KCO w (coursesOf (l.take i)) (.slice Ar n cr) wr)) (fun _ iv _ => l.length - (RowKit.intOf iv).toNat)
  case atStart => exact ⟨0, 0, none, 0, rfl, rfl, Nat.zero_le _, Nat.le_refl _, hid rfl, H0⟩
  case round =>
    obtain ⟨i, n, Ar, cr, rfl, rfl, hi, hni, hn, hK⟩ := hrel
    by_cases hlt : i < l.length
    · have hltz : (i : Int) < (l.length : Int) := by omega
      have dk : decide (l.length ≤ i) = false := decide_eq_false (by omega)
      obtain ⟨b, o, q, rfl, hb, _, hc⟩ := (HH.out wr hK.out.b).at_ hlt
      have hst := coursesOf_take l i hlt
      unfold courses1 at hst
      obtain ⟨LC, hLC⟩ : ∃ LC, coursesOf (l.take i) = LC := ⟨_, rfl⟩
      rw [hLC] at hst hn hK
      obtain ⟨y, hy⟩ : ∃ y, (l[i]).course = y := ⟨_, rfl⟩
      have z1 := hc.c1
      rw [hy] at z1 hst
      obtain ⟨Ar', cr', hv, _, _, hin⟩ := hK.out.r.strsIn
      have hv' : Ar = Ar' := by injection hv
      have cH := has_any Ar LC cr (ba y) (fun b => w.heap.size ≤ b ∧ b < wr.heap.size) wr (by rw [hv']; exact hin) (by rw [hn.out]; omega)
      rw [hn.out, lst_ba] at cH
      obtain ⟨U, hU⟩ : ∃ U, decide (y ∈ LC) = U := ⟨_, rfl⟩
      rw [hU] at cH
      obtain ⟨Y, hY⟩ : ∃ Y, ba y = Y := ⟨_, rfl⟩
      have hYs : S3.strVals [y] = [.string Y] := by rw [← hY]; rfl
      rw [hY] at z1 cH
      have CH := hid cH
      have HST := hid hst
      have HU := hid hU
      have HYS := hid hYs
      clear hst hU hY hYs hv hv' hin cH hc hLC hy hb H0
      go_wp2_with fail
      refine CH.out.mono ?_
      rintro e w' ⟨rfl, rfl⟩
      cases U with
      | true =>
        have hst := HST.out
        rw [if_pos (by simpa using HU.out)] at hst
        have HN2 : Hid ((coursesOf (l.take (i + 1))).length = n) := hid (by rw [hst]; exact hn.out)
        have HK2 : Hid (KCO w (coursesOf (l.take (i + 1))) (.slice Ar n cr) wr) := hid (by rw [hst]; exact hK.out)
        clear hst
        go_wp2
        go_roundw
        case rel => exact ⟨i + 1, n, Ar, cr, rfl, by go_num, by omega, by omega, HN2, HK2⟩
        case measure => simp [RowKit.intOf]; omega
      | false =>
        have hst := HST.out
        rw [if_neg (by simpa using HU.out)] at hst
        have HST2 := hid hst
        have hrow := hK.out.r
        unfold S3.StrRow at hrow
        rw [hn.out] at hrow
        have HROW := hid hrow
        have HC3 : Hid (n + 1 ≤ maxLen) := by unfold maxLen; exact hid (by omega)
        have HC4 : Hid ((n + 1) * 16 ≤ 140737488355328) := hid (by omega)
        have HC5 : Hid (∀ o : Obj, w.heap.size ≤ (wr.alloc o).heap.size) := hid (fun o => by have := hK.out.b.size; simp; omega)
        clear hst hrow
        go_wp2_with (at_builtin; refine wpList_append_own _ rfl _ _ 40 rfl w.heap.size 9 i9 (.string ⟨#[]⟩) 1 16 Tryz.underlying40 hi9 hz9 hsi9 hby9 rfl (by decide) _ n (S3.strVals LC) rfl (World.ownsRow.alloc HROW.out _) ⟨wr.heap.size, 0, none⟩ 1 1 [.string Y] rfl rfl (one_new _ _ _) (S3.one_str _) HC3.out HC4.out (HC5.out _) ?_)
        intro v' w4 hown' hgrow _
        have hg' := grownBy_of_alloc hgrow
        obtain ⟨A6, c6, rfl⟩ := S3.row_slice hown'
        have hrow6 : S3.StrRow w4 w.heap.size (.slice A6 (n + 1) c6) (coursesOf (l.take (i + 1))) := by
          rw [HST2.out]
          unfold S3.StrRow
          rw [List.length_append, hn.out, S3.strVals_app, HYS.out]
          exact hown'
        have HK4 := hid (hK.out.app hg' hrow6)
        have HN2 : Hid ((coursesOf (l.take (i + 1))).length = n + 1) := hid (by rw [HST2.out, List.length_append, hn.out]; rfl)
        clear hown' hgrow hg' hrow6 HC3 HC4 HC5
        go_wp2
        go_roundw
        case rel => exact ⟨i + 1, n + 1, A6, c6, rfl, by go_num, by omega, by omega, HN2, HK4⟩
        case measure => simp [RowKit.intOf]; omega
    · have hltz : ¬ (i : Int) < (l.length : Int) := by omega
      have HR : Hid (S3.RowOut (coursesOf l) w (.returned (.slice Ar n cr)) wr) := hid ⟨⟨_, rfl, by have := hK.out.r; rwa [List.take_of_length_le (by omega)] at this⟩, hK.out.b⟩
      clear hK hn H0
      go_wp2
      go_ret
      exact HR.out
end Go.Proofs.YtlgmanbilaminaaGreatDoor.S11
namespace Go.Proofs.YtlgmanbilaminaaGreatDoor
open Go Go.Proofs Go.RowKit Go.Lib
open Go.Maps (Keyed string_keyed)
open Go.WideMaps (keyOf_string_mk)
def litS (s : Str) : Lit := .string s
theorem keyLit (s : Str) : WideAt.IsKeyLit (litS s) := by unfold litS; constructor
theorem sameKey_litS (a b : Str) : (litS a).sameKey (litS b) = decide (a = b) := by
  by_cases h : a = b
  · subst h
    rw [WideAt.sameKey_self (keyLit a), decide_eq_true rfl]
  · rw [Maps.sameKey_ne (fun e => h (by unfold litS at e; injection e)), decide_eq_false h]
theorem below_grown {B : Nat} {w w' : World} (h : Below B w w') (hB : w.heap.size ≤ B) : w.grownBy w' none := ⟨h.os, h.tape, h.output, h.size, fun k hk _ => h.block k (Nat.lt_of_lt_of_le hk hB)⟩
theorem law9 : Keyed Tryz.prog 9 := string_keyed Tryz.underlying9
theorem grown_none {w w' : World} {B : Nat} (h : w.grownBy w' none) : w.grownBy w' (some B) := ⟨h.os, h.tape, h.output, h.size, fun k hk _ => h.block k hk (by simp)⟩
end Go.Proofs.YtlgmanbilaminaaGreatDoor
namespace Go.Proofs.YtlgmanbilaminaaGreatDoor
open Go Go.Proofs Go.RowKit Go.Lib
theorem own_lt {W : World} {B e z n : Nat} {v : Value} {xs : List Value} (h : W.ownsRow B e z v n xs) : ∀ k, v.ownBlock = some k → B ≤ k ∧ k < W.heap.size := World.ownsRow.lt h
theorem row_kindT {w : World} {B e z k : Nat} {v : Value} {xs : List Value} (h : w.ownsRow B e z v k xs) (g : Nat) (hg : v.ownBlock = some g) : ∃ c, w.heap[g]? = some (.cells c e (0, 0)) := by
  rcases h.2 with ⟨rfl, _⟩ | ⟨g', cap, cur, rfl, _, hh, _⟩
  · simp [Value.ownBlock] at hg
  · simp only [Value.ownBlock, Option.some.injEq] at hg
    subst hg
    exact ⟨cur, hh⟩
theorem kinds_ne {W : World} {B B' e e' z z' n n' : Nat} {v v' : Value} {xs xs' : List Value} (h : W.ownsRow B e z v n xs) (h' : W.ownsRow B' e' z' v' n' xs') (hne : e ≠ e') : v.ownBlock = none ∨ v.ownBlock ≠ v'.ownBlock := by
  cases hv : v.ownBlock with
  | none => exact .inl rfl
  | some g =>
    refine .inr fun e0 => ?_
    obtain ⟨c, hc⟩ := row_kindT h g hv
    obtain ⟨c', hc'⟩ := row_kindT h' g e0.symm
    rw [hc] at hc'
    injection hc' with h1
    injection h1 with _ h2
    exact hne h2
theorem four_new (w : World) (a b c d : Int) (T : TypeId) : ∀ (j : Nat) (u : Value), (timeVs (a, b, c, d))[j]? = some u → (w.alloc (.cells #[.int .i64 a, .int .i64 b, .int .i64 c, .int .i64 d] T)).cell? ((⟨w.heap.size, 0, none⟩ : Addr).add j) = some u := by
  intro j u h
  have k := Box4.new w a b c d T
  rw [Addr.add_lit]
  match j, h with
  | 0, h => exact k.c0.trans h
  | 1, h => exact k.c1.trans h
  | 2, h => exact k.c2.trans h
  | 3, h => exact k.c3.trans h
  | j + 4, h => simp [timeVs] at h
theorem times_one (t : TimeD) : ∀ u ∈ timeVs t, u.oneCell' = true := fun u hu => timeVals_one [t] u (by simpa [timeVals] using hu)
end Go.Proofs.YtlgmanbilaminaaGreatDoor
