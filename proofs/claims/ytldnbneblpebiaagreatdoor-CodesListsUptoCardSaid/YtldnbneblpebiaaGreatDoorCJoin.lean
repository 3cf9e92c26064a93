/-
  The program's Join: its contract (joinM). Conditions: the library's variables hold what its text lays; the list of strings lies in memory.
-/
import Derived.Test.YtldnbneblpebiaaGreatDoorAhead
import Derived.Lib.Join
import Derived.Laws.Concat
set_option linter.unusedVariables false
namespace Go.Proofs.YtldnbneblpebiaaGreatDoor
open Go Go.Proofs Go.RowKit Go.Lib

theorem joinP_fuel : ∀ (n : Nat) (l : List Str) (k : Nat), l.length ≤ n → l.length ≤ k → joinP k l = joinP n l
  | 0, l, k, h, _ => by
    obtain rfl : l = [] := List.eq_nil_of_length_eq_zero (by omega)
    cases k <;> rfl
  | n + 1, [], k, _, _ => by cases k <;> rfl
  | n + 1, f :: r, 0, _, h => by simp at h
  | n + 1, f :: r, k + 1, h1, h2 => by
    simp only [List.length_cons] at h1 h2
    have hp := ahead_pos f r
    have ih1 := joinP_fuel n ((f :: r).drop (aheadM (f :: r))) k (by simp; omega) (by simp; omega)
    have ih2 := joinP_fuel n r k (by omega) (by omega)
    simp only [joinP]
    rw [ih1, ih2]
/-- The parts of a list's text. -/
def partsL (l : List Str) : List Str := joinP l.length l
theorem partsL_nil : partsL [] = [] := rfl
theorem partsL_range (f : Str) (r : List Str) (h : 3 ≤ aheadM (f :: r)) : partsL (f :: r) = rangeT f (aheadM (f :: r)) :: partsL ((f :: r).drop (aheadM (f :: r))) := by
  unfold partsL
  show joinP (r.length + 1) (f :: r) = _
  simp only [joinP]
  rw [if_pos h]
  congr 1
  have hp := ahead_pos f r
  exact joinP_fuel _ _ _ (Nat.le_refl _) (by simp; omega)
theorem partsL_one (f : Str) (r : List Str) (h : ¬ 3 ≤ aheadM (f :: r)) : partsL (f :: r) = f :: partsL r := by
  unfold partsL
  show joinP (r.length + 1) (f :: r) = _
  simp only [joinP]
  rw [if_neg h]
theorem partsL_len : ∀ (n : Nat) (l : List Str), l.length ≤ n → (partsL l).length ≤ l.length
  | 0, l, h => by
    obtain rfl : l = [] := List.eq_nil_of_length_eq_zero (by omega)
    simp [partsL_nil]
  | n + 1, [], _ => by simp [partsL_nil]
  | n + 1, f :: r, h => by
    simp only [List.length_cons] at h
    have hp := ahead_pos f r
    by_cases h3 : 3 ≤ aheadM (f :: r)
    · rw [partsL_range f r h3]
      have := partsL_len n ((f :: r).drop (aheadM (f :: r))) (by simp; omega)
      simp at this ⊢
      omega
    · rw [partsL_one f r h3]
      have := partsL_len n r (by omega)
      simp
      omega
theorem semi_join : ∀ l : List Str, Lib.join l [59] = semi l
  | [] => rfl
  | [p] => by rw [Lib.join_one]; rfl
  | p :: q :: r => by
    have ih := semi_join (q :: r)
    rw [Lib.join_cons] at ih ⊢
    show p ++ Lib.joinTail [59] (q :: r) = p ++ 59 :: semi (q :: r)
    rw [← ih]
    simp [Lib.joinTail]
theorem semi_len : ∀ (l : List Str), (∀ p ∈ l, p.length ≤ 40) → (semi l).length ≤ 41 * l.length
  | [], _ => by simp [semi]
  | [p], h => by have := h p (.head _); simp [semi]; omega
  | p :: q :: r, h => by
    have ih := semi_len (q :: r) (fun x hx => h x (.tail _ hx))
    have := h p (.head _)
    show (p ++ 59 :: semi (q :: r)).length ≤ _
    simp at ih ⊢
    omega
theorem parts_short : ∀ (n : Nat) (l : List Str), l.length ≤ n → (∀ c ∈ l, validC c = true) → ∀ p ∈ partsL l, p.length ≤ 40
  | 0, l, h, _, p, hp => by
    obtain rfl : l = [] := List.eq_nil_of_length_eq_zero (by omega)
    simp [partsL_nil] at hp
  | n + 1, [], _, _, p, hp => by simp [partsL_nil] at hp
  | n + 1, f :: r, h, hv, p, hp => by
    simp only [List.length_cons] at h
    have hpos := ahead_pos f r
    by_cases h3 : 3 ≤ aheadM (f :: r)
    · rw [partsL_range f r h3] at hp
      rcases List.mem_cons.1 hp with rfl | hp
      · have hnv : validC (nthS f (aheadM (f :: r) - 1)) = true := by
          have := ahead_nth f r (aheadM (f :: r) - 2) (by omega)
          rw [show aheadM (f :: r) - 2 + 1 = aheadM (f :: r) - 1 by omega] at this
          exact hv _ (List.mem_cons_of_mem _ (List.mem_of_getElem? this))
        have h1 := validC_len (hv f (.head _))
        have h2 := validC_len hnv
        unfold rangeT
        simp
        omega
      · exact parts_short n _ (by simp; omega) (fun c hc => hv c (List.mem_of_mem_drop hc)) p hp
    · rw [partsL_one f r h3] at hp
      rcases List.mem_cons.1 hp with rfl | hp
      · have := validC_len (hv p (.head _)); omega
      · exact parts_short n r (by omega) (fun c hc => hv c (.tail _ hc)) p hp

def sliceLen : Value → Nat | .slice _ n _ => n | _ => 0
/-- What Join hands back. -/
def JoinOut (l : List Str) (w : World) (e : Ending) (w' : World) : Prop :=
  e = .returned (.tuple #[.string (ba (if checkM l = 0 then joinM l else [])), .int .i64 (checkM l)]) ∧ Below w.heap.size w w'
theorem ba_app (a b : Str) : ba a ++ ba b = ba (a ++ b) := by
  apply ByteArray.ext
  simp [ba]
theorem ba_size (a : Str) : (ba a).size = a.length := by
  show a.toArray.size = _
  simp
theorem StrsIn.rest {w : World} {P : Nat → Prop} {A : Option Addr} {l : List Str} (h : StrsIn w P A l) (n c : Nat) (hlc : l.length ≤ c) : StrsIn w P (if c = n then A else A.map (·.add n)) (l.drop n) := by
  by_cases hn : n < l.length
  · rw [if_neg (by omega)]
    rcases h with h | ⟨b, off, rfl, hP, hc⟩
    · subst h; simp at hn
    · refine .inr ⟨b, off + n, by rw [Option.map_some, Addr.add_lit], hP, fun j s hj => ?_⟩
      rw [List.getElem?_drop] at hj
      rw [show off + n + j = off + (n + j) by omega]
      exact hc _ _ hj
  · exact .inl (List.drop_of_length_le (by omega))

theorem strs_rest {w : World} {P : Nat → Prop} {b off : Nat} {l : List Str} (h : StrsIn w P (some ⟨b, off, none⟩) l) (n c : Nat) (hlc : l.length ≤ c) : StrsIn w P (if c = n then some ⟨b, off, none⟩ else some ⟨b, off + n, none⟩) (l.drop n) := by
  have := h.rest n c hlc
  rwa [Option.map_some, Addr.add_lit] at this

set_option maxHeartbeats 8000000 in
set_option maxRecDepth 100000 in
theorem cjoin_any (A : Option Addr) (l : List Str) (c : Nat) (w : World) (h : StrsIn w (fun b => b < w.heap.size) A l) (hlc : l.length ≤ c) (hc : c ≤ 9223372036854775807) (hE : Env w) :
    Calls Tryz.prog 23 #[.slice A l.length c] w (JoinOut l w) := by
  have cC := hid (check_any A l c _ w h hlc hc)
  by_cases hk : checkM l = 0
  · obtain ⟨h64, hv⟩ := check_valid hk
    have HV := hid hv
    unfold JoinOut
    rw [if_pos hk, hk]
    rw [hk] at cC
    have H : Hid (∀ w' : World, Below w.heap.size w w' → StrsIn w' (fun b => b < w.heap.size) A l) := hid (fun w' hb => h.kept (fun b hlt => hb.block b hlt))
    have HE := hid hE
    have HS : Hid (joinM l = semi (partsL l)) := hid rfl
    have HP4 := hid (parts_short _ l (Nat.le_refl _) hv)
    have HPL := hid (partsL_len _ l (Nat.le_refl _))
    rw [HS.out]
    obtain ⟨i9, hi9, hz9, hsi9, hby9⟩ := info_parts infoStr
    clear h hv hE hk
    go_enter Tryz.func23, Tryz.ntmps23
    go_wp2_with fail
    refine cC.out.mono ?_
    rintro e w1 ⟨rfl, rfl⟩
    go_wp2_with fail
    go_loopw [0, 5] (fun sv v wr => ∃ (n c' : Nat) (A' : Option Addr) (ps : List Str), sv = .slice A' (l.drop n).length c' ∧ Hid (StrsIn wr (fun b => b < w.heap.size) A' (l.drop n)) ∧ (l.drop n).length ≤ c' ∧ c' ≤ 9223372036854775807 ∧ n ≤ l.length ∧ Hid (partsL l = ps ++ partsL (l.drop n)) ∧ StrRow wr w.heap.size v ps ∧ Hid (Below w.heap.size w wr)) (fun sv _ _ => sliceLen sv)
    case atStart => exact ⟨0, c, A, [], rfl, hid (H.out w (Below.refl _ _)), hlc, hc, by omega, hid rfl, World.ownsRow_nil _ _ _ _, hid (Below.refl _ _)⟩
    case round =>
      obtain ⟨n, c', A', ps, rfl, hIn, hlc', hc', hn, hps, hrow, hB⟩ := hrel
      obtain ⟨Ar, cr, rfl⟩ := row_slice hrow
      have HRow := hid hrow
      have HE1 := hid (HE.out.below hB.out)
      clear hrow
      have hpl : ps.length + (partsL (l.drop n)).length ≤ 64 := by
        have h1 := HPL.out
        have h2 := congrArg List.length hps.out
        rw [List.length_append] at h2
        omega
      cases hr : l.drop n with
      | nil =>
        rw [hr] at hps hIn hlc' hpl
        have HPS : Hid (partsL l = ps) := hid (by rw [hps.out, partsL_nil, List.append_nil])
        clear hr hps
        obtain ⟨A5, c5, eA, hl5, hc5, hI5⟩ := HRow.out.strsIn
        have hA5 : Hid (Ar = A5 ∧ cr = c5) := hid (by injection eA with e1 _ e3; exact ⟨e1, e3⟩)
        obtain ⟨rfl, rfl⟩ := hA5.out
        have cJ : Hid (Calls Tryz.prog 51 #[.slice Ar ps.length cr, .string ⟨#[59]⟩] wr fun e w' => e = .returned (.string (ba (semi ps))) ∧ Below wr.heap.size wr w') := hid (by
          rcases hI5 with h | ⟨b, off, rfl, hb, hcell⟩
          · subst h
            exact (Tryz.strings_Join_none Ar cr ⟨#[59]⟩ wr).mono fun e w' ⟨h1, h2⟩ => ⟨h1, h2 ▸ Below.refl _ _⟩
          · have hj := Tryz.strings_Join b off cr (ps.map ba) ⟨#[59]⟩ wr (fun j x hx => by
              rw [List.getElem?_map] at hx
              obtain ⟨y, hy, rfl⟩ := Option.map_eq_some_iff.1 hx
              exact hcell j y hy) hb.2 (by simp; omega) (by simpa using hl5) (by
              have e : (ps.map ba).map (·.data.toList) = ps := by simp [Function.comp_def, ba]
              rw [e, show (⟨#[59]⟩ : ByteArray).data.toList = [59] from rfl, semi_join]
              have := semi_len ps (fun p hp => HP4.out p (by rw [HPS.out]; exact hp))
              omega)
            have e : (ps.map ba).map (·.data.toList) = ps := by simp [Function.comp_def, ba]
            rw [e, show (⟨#[59]⟩ : ByteArray).data.toList = [59] from rfl, semi_join, List.length_map] at hj
            exact hj)
        clear eA hA5 hI5 hl5 hc5 hlc' hIn
        go_wp2_with fail
        refine cJ.out.mono ?_
        rintro e w2 ⟨rfl, hb2⟩
        have HB2 := hid (hB.out.trans (hb2.mono hB.out.size))
        clear hb2
        go_wp2_with fail
        go_ret2
        exact ⟨by rw [HPS.out]; rfl, HB2.out⟩
      | cons f r =>
        rw [hr] at hps hIn hlc' hpl
        have hdl : l.length - n = r.length + 1 := by
          have := congrArg List.length hr
          simpa using this
        have hvf : ∀ x ∈ f :: r, validC x = true := fun x hx => HV.out x (List.mem_of_mem_drop (by rw [hr]; exact hx))
        have hf16 := validC_len (hvf f (.head _))
        have hdd : ∀ j, (f :: r).drop j = l.drop (n + j) := fun j => by rw [← hr, List.drop_drop]
        have cA := hid (ahead_any A' f r c' (fun b => b < w.heap.size) wr hIn.out (fun b hb => Nat.lt_of_lt_of_le hb hB.out.size) (by omega) hf16 HE1.out)
        obtain ⟨b, off, rfl, hbl, hcell⟩ : ∃ b off, A' = some ⟨b, off, none⟩ ∧ b < w.heap.size ∧ ∀ (j : Nat) (s : Str), (f :: r)[j]? = some s → wr.cell? ⟨b, off + j, none⟩ = some (.string (ba s)) := by
          rcases hIn.out with h | h
          · cases h
          · exact h
        have hpos := ahead_pos f r
        have hR := partsL_range f r
        have hO := partsL_one f r
        have hnth := ahead_nth f r
        obtain ⟨run, hrun⟩ : ∃ run, aheadM (f :: r) = run := ⟨_, rfl⟩
        rw [hrun] at cA hpos hR hO hnth
        have hc0 := hcell 0 f rfl
        rw [Nat.add_zero] at hc0
        have HCELL := hid hcell
        have HR := hid hR
        have HO := hid hO
        have HNTH := hid hnth
        have HDD := hid hdd
        have HVF := hid hvf
        clear hcell hR hO hnth hdd hrun hr hvf
        go_wp2_with fail
        refine cA.out.mono ?_
        rintro e w2 ⟨rfl, hb2⟩
        have HB2 := hid (hB.out.trans (hb2.mono hB.out.size))
        have HIn2 : Hid (StrsIn w2 (fun b => b < w.heap.size) (some ⟨b, off, none⟩) (f :: r)) := hid (hIn.out.kept (fun b' hb' => hb2.block b' (Nat.lt_of_lt_of_le hb' hB.out.size)))
        have HRow2 : Hid (StrRow w2 w.heap.size _ ps) := hid (row_under HRow.out hb2)
        have HC2 : Hid (∀ (j : Nat) (s : Str), (f :: r)[j]? = some s → w2.cell? ⟨b, off + j, none⟩ = some (.string (ba s))) := hid (fun j s hj => (hb2.cell (p := ⟨b, off + j, none⟩) (Nat.lt_of_lt_of_le hbl hB.out.size)).trans (HCELL.out j s hj))
        clear hb2 cA HCELL HE1 HRow hIn hB
        by_cases h3 : 3 ≤ run
        · have hX : (f :: r)[run - 1]? = some (nthS f (run - 1)) := by
            have := HNTH.out (run - 2) (by omega)
            rw [show run - 2 + 1 = run - 1 by omega] at this
            rw [show run - 1 = run - 2 + 1 by omega, List.getElem?_cons_succ, this, show run - 2 + 1 = run - 1 by omega]
          have hXv := validC_len (HVF.out _ (List.mem_of_getElem? hX))
          have hcX := HC2.out _ _ hX
          have hc0' := HC2.out 0 f rfl
          rw [Nat.add_zero] at hc0'
          have HRT : Hid (rangeT f run = f ++ 46 :: 46 :: nthS f (run - 1)) := hid rfl
          obtain ⟨X, hXe⟩ : ∃ X, nthS f (run - 1) = X := ⟨_, rfl⟩
          rw [hXe] at hXv hcX HRT
          have add1 : ∀ w, (Op.stringOp .add (ba f) ⟨#[46, 46]⟩).run Tryz.prog w = .ok (.string (ba f ++ ⟨#[46, 46]⟩)) w := fun w => run_string_add_sum (w := w) _ _ (by rw [ba_size]; have : (⟨#[46, 46]⟩ : ByteArray).size = 2 := rfl; omega)
          have add2 : ∀ w, (Op.stringOp .add (ba f ++ ⟨#[46, 46]⟩) (ba X)).run Tryz.prog w = .ok (.string (ba f ++ ⟨#[46, 46]⟩ ++ ba X)) w := fun w => run_string_add_sum (w := w) _ _ (by rw [ByteArray.size_append, ba_size, ba_size]; have : (⟨#[46, 46]⟩ : ByteArray).size = 2 := rfl; omega)
          have hT : ba f ++ ⟨#[46, 46]⟩ ++ ba X = ba (rangeT f run) := by
            rw [HRT.out, show (⟨#[46, 46]⟩ : ByteArray) = ba [46, 46] from rfl, ba_app, ba_app]
            simp
          rw [hT] at add2
          obtain ⟨T, hTe⟩ : ∃ T, rangeT f run = T := ⟨_, rfl⟩
          rw [hTe] at add2
          have HT := hid hTe
          have h3z : (3 : Int) ≤ (run : Int) := by omega
          have q1 : IntKind.i64.wrap ((run : Int) - 1) = (run : Int) - 1 := IntWalk.i64_in _ (by omega)
          have q2 : (1 : Int) ≤ (run : Int) := by omega
          have q3 : ((run : Int) - 1).toNat = run - 1 := by omega
          have q4 : (run : Int) - 1 < (r.length : Int) + 1 := by omega
          clear hX hXe hT hTe
          go_wp2_with fail
          go_quiet (fail)
          have hd2 : Below w2.heap.size w2 (w2.drewN nq) := below_drewN (Below.refl _ _) nq
          have HB3 : Hid (Below w.heap.size w (w2.drewN nq)) := hid (below_drewN HB2.out nq)
          have HIn3 : Hid (StrsIn (w2.drewN nq) (fun b => b < w.heap.size) (some ⟨b, off, none⟩) (f :: r)) := hid (HIn2.out.kept (fun b' hb' => hd2.block b' (Nat.lt_of_lt_of_le hb' HB2.out.size)))
          have HRow3 : Hid (StrRow (w2.drewN nq) w.heap.size _ ps) := hid (row_under HRow2.out hd2)
          clear hd2 HB2 HIn2 HRow2 HC2 hc0' hcX add1 add2
          generalize w2.drewN nq = w3 at HB3 HIn3 HRow3 ⊢
          have HC3 : Hid (ps.length + 1 ≤ maxLen) := by unfold maxLen; exact hid (by omega)
          have HC4 : Hid ((ps.length + 1) * 16 ≤ 140737488355328) := hid (by omega)
          have HC5 : Hid (∀ o : Obj, w.heap.size ≤ (w3.alloc o).heap.size) := hid (fun o => by have := HB3.out.size; simp; omega)
          go_wp2_with (at_builtin; refine wpList_append_own _ rfl _ _ 34 rfl w.heap.size 9 i9 (.string ⟨#[]⟩) 1 16 Tryz.underlying34 hi9 hz9 hsi9 hby9 rfl (by decide) _ ps.length (strVals ps) rfl (World.ownsRow.alloc HRow3.out _) ⟨w3.heap.size, 0, none⟩ 1 1 [.string (ba T)] rfl rfl (one_new _ _ _) (one_str _) HC3.out HC4.out (HC5.out _) ?_)
          intro v' w4 hown' hgrow _
          have hg' := grownBy_of_alloc hgrow
          have hb24 : Below w.heap.size w3 w4 := (Below.refl _ w3).grown hg' HB3.out.size (fun k hk => (World.ownsRow.lt HRow3.out k hk).1)
          have HB4 := hid (HB3.out.trans hb24)
          have HIn4 : Hid (StrsIn w4 (fun b => b < w.heap.size) (if c' = run then some ⟨b, off, none⟩ else some ⟨b, off + run, none⟩) ((f :: r).drop run)) := hid (strs_rest (HIn3.out.kept (fun b' hb' => hb24.block b' hb')) run c' hlc')
          have HOwn := hid hown'
          clear hb24 hg' hgrow hown'
          go_wp2_with fail
          go_roundw
          case rel =>
            have hr1 : l.drop (n + run) = (f :: r).drop run := (HDD.out run).symm
            have hr2 : (l.drop (n + run)).length = r.length + 1 - run := by rw [hr1]; simp
            refine ⟨n + run, c' - run, _, ps ++ [T], by rw [hr2], hid (by rw [hr1]; exact HIn4.out), by rw [hr2]; simp at hlc'; omega, by omega, by omega, hid (by rw [hr1, hps.out, HR.out h3, HT.out]; simp), ?_, HB4⟩
            unfold StrRow
            rw [strVals_app, List.length_append]
            exact HOwn.out
          case measure => simp [sliceLen]; omega
        · have h3z : ¬ (3 : Int) ≤ (run : Int) := by omega
          have hc0' := HC2.out 0 f rfl
          rw [Nat.add_zero] at hc0'
          have HC3 : Hid (ps.length + 1 ≤ maxLen) := by unfold maxLen; exact hid (by omega)
          have HC4 : Hid ((ps.length + 1) * 16 ≤ 140737488355328) := hid (by omega)
          have HC5 : Hid (∀ o : Obj, w.heap.size ≤ (w2.alloc o).heap.size) := hid (fun o => by have := HB2.out.size; simp; omega)
          go_wp2_with (at_builtin; refine wpList_append_own _ rfl _ _ 34 rfl w.heap.size 9 i9 (.string ⟨#[]⟩) 1 16 Tryz.underlying34 hi9 hz9 hsi9 hby9 rfl (by decide) _ ps.length (strVals ps) rfl (World.ownsRow.alloc HRow2.out _) ⟨w2.heap.size, 0, none⟩ 1 1 [.string (ba f)] rfl rfl (one_new _ _ _) (one_str _) HC3.out HC4.out (HC5.out _) ?_)
          intro v' w4 hown' hgrow _
          have hg' := grownBy_of_alloc hgrow
          have hb24 : Below w.heap.size w2 w4 := (Below.refl _ w2).grown hg' HB2.out.size (fun k hk => (World.ownsRow.lt HRow2.out k hk).1)
          have HB4 := hid (HB2.out.trans hb24)
          have HIn4 : Hid (StrsIn w4 (fun b => b < w.heap.size) (if c' = 1 then some ⟨b, off, none⟩ else some ⟨b, off + 1, none⟩) ((f :: r).drop 1)) := hid (strs_rest (HIn2.out.kept (fun b' hb' => hb24.block b' hb')) 1 c' hlc')
          have HOwn := hid hown'
          clear hb24 hg' hgrow hown'
          go_wp2_with fail
          go_roundw
          case rel =>
            have hr1 : l.drop (n + 1) = r := (HDD.out 1).symm
            refine ⟨n + 1, c' - 1, _, ps ++ [f], by rw [hr1], hid (by rw [hr1]; exact HIn4.out), by rw [hr1]; simp at hlc'; omega, by omega, by omega, hid (by rw [hr1, hps.out, HO.out h3]; simp), ?_, HB4⟩
            unfold StrRow
            rw [strVals_app, List.length_append]
            exact HOwn.out
          case measure => simp [sliceLen]
  · unfold JoinOut
    rw [if_neg hk]
    have hkz : (checkM l == 0) = false := by simpa using hk
    have hkz' : (checkM l != 0) = true := by simpa using hk
    generalize checkM l = K at cC hkz hkz'
    clear h hE hk
    go_enter Tryz.func23, Tryz.ntmps23
    go_wp2_with fail
    refine cC.out.mono ?_
    rintro e w1 ⟨rfl, rfl⟩
    go_wp2_with fail
    go_ret2
    exact ⟨rfl, Below.refl _ _⟩
end Go.Proofs.YtldnbneblpebiaaGreatDoor
