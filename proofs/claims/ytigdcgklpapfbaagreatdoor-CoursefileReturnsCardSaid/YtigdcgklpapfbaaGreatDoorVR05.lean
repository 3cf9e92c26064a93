/-
  The words of a time's text, and the name of a day: cutWords and dayOf of timegrid. Conditions: the table of the days' names holds what its text lays.
  A range over a function whose iterator writes a variable that it has captured: the law of such a loop, in the form that weekset.Parse needs (one loop variable, a body that goes on or returns).
  The parts of a list: the library's strings.SplitSeq at ',' (its iterator, over whatever body the loop has). Condition: the string has fewer than 2^62 bytes.
  The program's Parse. Conditions: the variables hold what their text lays; the string fits into memory.
-/
import Derived.Test.YtigdcgklpapfbaaGreatDoorVR04
import Derived.RangeFuncNested
import Derived.RangeFuncBound
import Derived.Shelf.RegionOpen
import Derived.OwnWalkIn
import Derived.LoopNIn
import Derived.LoopIn
set_option linter.unusedVariables false
namespace Go.Proofs.YtigdcgklpapfbaaGreatDoor
open Go Go.Proofs Go.RowKit Go.Lib

/-- The cells of the table of the days' names. -/
def dayCells : List Value := [.string (ba (dayS 0)), .string (ba (dayS 1)), .string (ba (dayS 2)), .string (ba (dayS 3)), .string (ba (dayS 4)), .string (ba (dayS 5)), .string (ba (dayS 6))]
def Days (w : World) : Prop := ∀ (j : Nat) (v : Value), dayCells[j]? = some v → w.cell? ⟨4, j, none⟩ = some v
theorem Days.below {w w' : World} (h : Days w) {B : Nat} (hb : Below B w w') (hB : 8 < B) : Days w' :=
  fun j v hj => (hb.cell (p := ⟨4, j, none⟩) (by show 4 < B; omega)).trans (h j v hj)
def DayEntry (AR : Array Value) : Prop := ∀ k, k < 7 → ∃ T : ByteArray, lst T = dayS k ∧ ∀ w, (Instr.index 115 (Value.agg AR) (Value.int IntKind.i64 (k : Int))).run Tryz.prog w = .ok (Value.string T) w
theorem day_idx : DayEntry dayCells.toArray := by
  intro k hk
  rcases (show k = 0 ∨ k = 1 ∨ k = 2 ∨ k = 3 ∨ k = 4 ∨ k = 5 ∨ k = 6 by omega) with rfl | rfl | rfl | rfl | rfl | rfl | rfl
  · exact ⟨ba (dayS 0), rfl, fun w => by kernel_rfl⟩
  · exact ⟨ba (dayS 1), rfl, fun w => by kernel_rfl⟩
  · exact ⟨ba (dayS 2), rfl, fun w => by kernel_rfl⟩
  · exact ⟨ba (dayS 3), rfl, fun w => by kernel_rfl⟩
  · exact ⟨ba (dayS 4), rfl, fun w => by kernel_rfl⟩
  · exact ⟨ba (dayS 5), rfl, fun w => by kernel_rfl⟩
  · exact ⟨ba (dayS 6), rfl, fun w => by kernel_rfl⟩
theorem load_days {w : World} (hT : Days w) : ∃ L : List Value, Hid (DayEntry L.toArray) ∧ w.rangeAt 4 0 L ∧ (Tryz.prog.info? 115).map (·.size) = some L.length :=
  ⟨dayCells, hid day_idx, fun j v h => by rw [Nat.zero_add]; exact hT j v h, by kernel_rfl⟩
def dayR (x : Str) : Nat × Bool := match dayK x with | some k => (k, true) | none => (0, false)

set_option maxHeartbeats 4000000 in
set_option maxRecDepth 100000 in
theorem dayOf_any (s : ByteArray) (w : World) (hT : Days w) :
    Calls Tryz.prog 207 #[.string s] w fun e w' => e = .returned (.tuple #[.int .i64 ((dayR (lst s)).1 : Nat), .bool (dayR (lst s)).2]) ∧ Below w.heap.size w w' := by
  obtain ⟨R, hR⟩ : ∃ R, dayR (lst s) = R := ⟨_, rfl⟩
  have HR := hid hR
  obtain ⟨L, hX, hL1, hL2⟩ := load_days hT
  have HL1 := hid hL1
  have HL2 := hid hL2
  clear hL1 hL2
  rw [hR]
  clear hR hT
  go_enter Tryz.func207, Tryz.ntmps207
  go_wp2_with (refine wpList_load_mid rfl 115 _ rfl 4 0 rfl L _ HL1.out Tryz.underlying115 rfl HL2.out ?_)
  generalize L.toArray = AR at hX ⊢
  clear HL1 HL2
  go_loopw [7] (fun iv wr => ∃ k : Nat, iv = .int .i64 (k : Int) ∧ k ≤ 7 ∧ Hid (∀ i, i < k → dayS i ≠ lst s) ∧ Hid (Below w.heap.size w wr)) (fun iv _ => 7 - (RowKit.intOf iv).toNat)
  case atStart => exact ⟨0, rfl, by omega, hid (fun i hi => absurd hi (by omega)), hid (Below.refl _ _)⟩
  case round =>
    obtain ⟨k, rfl, hk, hne, hB⟩ := hrel
    by_cases hlt : k < 7
    · have hltz : (k : Int) < 7 := by omega
      obtain ⟨T, hTw, hix⟩ := hX.out k hlt
      have HTW := hid hTw
      clear hTw
      by_cases hw : lst T = lst s
      · have hr : R = (k, true) := by
          rw [← HR.out]
          unfold dayR
          rw [dayK_of hlt (HTW.out.symm.trans hw)]
        subst hr
        have he := toListEq hw
        clear hw HR
        go_wp2
        go_ret2
        exact ⟨rfl, hB.out⟩
      · have hnx : Hid (∀ i, i < k + 1 → dayS i ≠ lst s) := hid (fun i hi => by
          rcases Nat.lt_or_ge i k with h | h
          · exact hne.out i h
          · obtain rfl : i = k := by omega
            exact fun e => hw (HTW.out.trans e))
        have he := toListNe hw
        clear hw
        go_wp2
        go_roundw
        case rel => exact ⟨k + 1, by go_num, by omega, hnx, hid hB.out⟩
        case measure => simp [RowKit.intOf]; omega
    · obtain rfl : k = 7 := by omega
      have hr : R = (0, false) := by
        rw [← HR.out]
        unfold dayR
        rw [dayK_none hne.out]
      subst hr
      go_wp2
      go_ret2
      exact ⟨rfl, hB.out⟩

theorem indexByte_has (c : UInt8) (s : Str) : decide (0 ≤ Lib.indexByte s c) = has c s := by
  rw [indexByte_bef]
  cases has c s with
  | true => rw [if_pos rfl]; exact decide_eq_true (by omega)
  | false => rw [if_neg (by simp)]; rfl
/-- The set of weeks that a text names, in writing. -/
def setT (x : Str) : Str := if wThree x = true then wSet x else [97, 108, 108]
theorem words_set (x : Str) : wordsB x = decide (setT x ≠ [] ∧ has 32 (setT x) = false) := by
  unfold wordsB setT
  cases wThree x with
  | true => simp
  | false => simp; decide
theorem results_4 {fn : Func} {p q r u : Tmp} (h : fn.results = #[.tmp p, .tmp q, .tmp r, .tmp u]) (tmps : Array Value) (P : Program) (w : World) (va vb vc vd : Value)
    (ha : tmps.getD p undef = va) (hb : tmps.getD q undef = vb) (hc : tmps.getD r undef = vc) (hd : tmps.getD u undef = vd) : (results fn tmps).run P w = .ok (.tuple #[va, vb, vc, vd]) w := by
  rw [Array.getD_eq_getD_getElem?] at ha hb hc hd
  simp only [results, h]
  simp [ha, hb, hc, hd]
def WordsOut (x : Str) (w : World) (e : Ending) (w' : World) : Prop :=
  e = .returned (.tuple #[.string (ba (wDay x)), .string (ba (wSlots x)), .string (ba (setT x)), .bool (wordsB x)]) ∧ Below w.heap.size w w'
set_option maxHeartbeats 4000000 in
set_option maxRecDepth 100000 in
theorem cutWords_any (s : ByteArray) (hz : s.size ≤ 4611686018427387904) (w : World) : Calls Tryz.prog 206 #[.string s] w (WordsOut (lst s) w) := by
  have c1 := fun w => cut_any s 32 hz w
  have hRs := aft_small (s := s) 32 hz
  obtain ⟨A, hA⟩ : ∃ A, ba (bef 32 (lst s)) = A := ⟨_, rfl⟩
  obtain ⟨R, hR⟩ : ∃ R, ba (aft 32 (lst s)) = R := ⟨_, rfl⟩
  obtain ⟨two, h2⟩ : ∃ two, has 32 (lst s) = two := ⟨_, rfl⟩
  have lR : aft 32 (lst s) = lst R := by rw [← hR]; rfl
  rw [hR] at hRs
  have c2 := fun w => cut_any R 32 hRs w
  have hCs := aft_small (s := R) 32 hRs
  obtain ⟨S, hS⟩ : ∃ S, ba (bef 32 (lst R)) = S := ⟨_, rfl⟩
  obtain ⟨C, hC⟩ : ∃ C, ba (aft 32 (lst R)) = C := ⟨_, rfl⟩
  obtain ⟨three, h3⟩ : ∃ three, has 32 (lst R) = three := ⟨_, rfl⟩
  have lC : aft 32 (lst R) = lst C := by rw [← hC]; rfl
  unfold CutOut at c1 c2
  rw [hA, hR, h2] at c1
  rw [hS, hC, h3] at c2
  unfold WordsOut
  rw [words_set]
  unfold setT wDay wSlots wThree wSet
  rw [hA, lR, hS, h3, lC]
  have cK := fun w => Tryz.strings_Contains_one C 32 w
  have cK2 := fun w => Tryz.strings_Contains_one ⟨#[97, 108, 108]⟩ 32 w
  rw [show Lib.indexByte C.data.toList 32 = Lib.indexByte (lst C) 32 from rfl, indexByte_has] at cK
  rw [show decide (0 ≤ Lib.indexByte (⟨#[97, 108, 108]⟩ : ByteArray).data.toList 32) = false by decide] at cK2
  have C1 := hid c1
  have C2 := hid c2
  clear c1 c2 hRs hCs hA hR h2 lR hS hC h3 lC hz
  cases three with
  | false =>
    rw [if_neg (by simp), show decide (([97, 108, 108] : Str) ≠ [] ∧ has 32 [97, 108, 108] = false) = true by decide]
    go_enter Tryz.func206, Tryz.ntmps206
    go_wp2_with fail
    refine (C1.out _).mono ?_
    rintro e w1 ⟨rfl, q1, hq1⟩
    have HB1 : Hid (Below w.heap.size w w1) := hid (by rw [hq1]; exact below_drewN (Below.refl _ _) q1)
    clear hq1
    go_wp2_with fail
    refine (C2.out _).mono ?_
    rintro e w2 ⟨rfl, q2, hq2⟩
    have HB2 : Hid (Below w.heap.size w w2) := hid (by rw [hq2]; exact below_drewN HB1.out q2)
    clear hq2
    go_wp2_with fail
    refine (cK2 _).mono ?_
    rintro e w3 ⟨rfl, rfl⟩
    go_wp2
    refine bodyPost_ret (v := .tuple #[.string A, .string S, .string (ba [97, 108, 108]), .bool true]) (results_4 rfl _ _ _ _ _ _ _ rfl rfl rfl rfl) rfl ?_
    exact ⟨rfl, HB2.out⟩
  | true =>
    rw [if_pos rfl, ba_lst]
    by_cases h0 : 0 < C.size
    · obtain ⟨x1, x2, x3, x4⟩ := str_no h0
      rw [show decide (lst C ≠ [] ∧ has 32 (lst C) = false) = !(has 32 (lst C)) by
        have := lst_ne h0
        cases has 32 (lst C) <;> simp [this]]
      generalize has 32 (lst C) = H at cK ⊢
      clear h0
      go_enter Tryz.func206, Tryz.ntmps206
      go_wp2_with fail
      refine (C1.out _).mono ?_
      rintro e w1 ⟨rfl, q1, hq1⟩
      have HB1 : Hid (Below w.heap.size w w1) := hid (by rw [hq1]; exact below_drewN (Below.refl _ _) q1)
      clear hq1
      go_wp2_with fail
      refine (C2.out _).mono ?_
      rintro e w2 ⟨rfl, q2, hq2⟩
      have HB2 : Hid (Below w.heap.size w w2) := hid (by rw [hq2]; exact below_drewN HB1.out q2)
      clear hq2
      go_wp2_with fail
      refine (cK _).mono ?_
      rintro e w3 ⟨rfl, rfl⟩
      go_wp2
      refine bodyPost_ret (v := .tuple #[.string A, .string S, .string C, .bool (!H)]) (results_4 rfl _ _ _ _ _ _ _ rfl rfl rfl rfl) rfl ?_
      exact ⟨rfl, HB2.out⟩
    · obtain ⟨x1, x2, x3, x4⟩ := str_yes h0
      rw [decide_eq_false (fun h => h.1 (lst_nil h0))]
      clear h0
      go_enter Tryz.func206, Tryz.ntmps206
      go_wp2_with fail
      refine (C1.out _).mono ?_
      rintro e w1 ⟨rfl, q1, hq1⟩
      have HB1 : Hid (Below w.heap.size w w1) := hid (by rw [hq1]; exact below_drewN (Below.refl _ _) q1)
      clear hq1
      go_wp2_with fail
      refine (C2.out _).mono ?_
      rintro e w2 ⟨rfl, q2, hq2⟩
      have HB2 : Hid (Below w.heap.size w w2) := hid (by rw [hq2]; exact below_drewN HB1.out q2)
      clear hq2
      go_wp2
      refine bodyPost_ret (v := .tuple #[.string A, .string S, .string C, .bool false]) (results_4 rfl _ _ _ _ _ _ _ rfl rfl rfl rfl) rfl ?_
      exact ⟨rfl, HB2.out⟩
end Go.Proofs.YtigdcgklpapfbaaGreatDoor

set_option linter.unusedVariables false
namespace Go.Proofs.YtigdcgklpapfbaaGreatDoor
open Go Go.Proofs Go.RowKit Go.Lib

/-- A string comes to the loop's body: the round of loop l, from state s to state nx s x. -/
def Rounds {σ : Type} (n : Nat) (P : Program) (l : Nat) (Ok : σ → ByteArray → Prop) (nx : σ → ByteArray → σ) (J : σ → World → Prop) (Jx : World → Prop) : Prop :=
  ∀ s x W, J s W → Ok s x → YieldAt Fence.wide (n - 1) P l #[.string x] W fun e W' => (e = .returned (.bool true) ∧ J (nx s x) W') ∨ (e = .returned (.bool false) ∧ Jx W')
/-- The iterator's word: for whatever the rounds keep, so long as it lets the iterator write its own variable (block B). -/
def IterAt {σ : Type} (n : Nat) (P : Program) (gf : Nat) (lb : Array Value) (B : Nat) (Ok : σ → ByteArray → Prop) (nx : σ → ByteArray → σ) (Fin : σ → Prop) (I : σ → World → Prop) (s0 : σ) : Prop :=
  ∀ (l : Nat) (J : σ → World → Prop) (Jx : World → Prop) (W : World), (∀ s W, J s W → I s W) →
    (∀ s s' W v, J s W → I s' (W.setCell ⟨B, 0, none⟩ v) → J s' (W.setCell ⟨B, 0, none⟩ v)) →
    Rounds n P l Ok nx J Jx → J s0 W →
    CallsIn Fence.wide n P gf (#[.func (.yield l) #[] #[]] ++ lb) W fun e W' => (∃ v, e = .returned v) ∧ ((∃ s, Fin s ∧ J s W') ∨ Jx W')
/-- How a round's body may be left. -/
def bodyOut (B : Nat) (I' Ix : World → Prop) (W : World) : Exit → Act → World → Prop
  | .normal, _, W' => KeepsFrom B W W' ∧ I' W'
  | .ret, _, W' => KeepsFrom B W W' ∧ Ix W'
  | _, _, _ => False

set_option maxHeartbeats 1000000 in
theorem range_own {P : Program} {σ : Type} {g : Operand} {ps : Array Tmp} {assign body : Code} {Q : Exit → Act → World → Prop} {a : Act} {w : World} {n : Nat} (h1 : 1 ≤ n)
    {gf : Nat} {lb : Array Value} (hg : a.eval g = .func (.func gf) #[] lb) (eg : ∀ args w, (callFunc gf args).run P w = .ok (.enter gf args) w)
    (B : Nat) (hB : B < w.heap.size) (Ok : σ → ByteArray → Prop) (nx : σ → ByteArray → σ) (Fin : σ → Prop) (I : σ → World → Prop) (Ix : World → Prop) (s0 : σ)
    (hit : IterAt (n - 1) P gf lb B Ok nx Fin I s0) (hps : ps.size = 1)
    (hI : OwnFrom w.heap.size I) (hIx : OwnFrom w.heap.size (fun (_ : Unit) W => Ix W)) (h0 : I s0 w) (a₁ : ByteArray → Act)
    (hassign : ∀ (l : Nat) (x : ByteArray) (W : World) (K : Act → World → Prop), K (a₁ x) W →
      assign.wpIn (Fence.wide.inRound l) (n - 1 - 1) P (Exit.then K (fun _ _ _ => False)) { tmps := (ps.zip #[.string x]).foldl (fun t (p, v) => t.setIfInBounds p v) a.tmps, defers := [] } W)
    (hbody : ∀ (l : Nat) (s : σ) (x : ByteArray) (W : World), I s W → Ok s x → body.wpIn (Fence.wide.inRound l) (n - 1 - 1) P (bodyOut w.heap.size (I (nx s x)) Ix W) (a₁ x) W)
    (hdone : ∀ (D : Nat) (s : σ) (W : World), w.heap.size ≤ D → Fin s → I s W → W.heap[D]? = some (.deferred (some [])) → Q .normal { a with defers := { target := .collected D, args := #[] } :: a.defers } W)
    (hstop : ∀ (D : Nat) (W : World), w.heap.size ≤ D → Ix W → W.heap[D]? = some (.deferred (some [])) → Code.ret.wpIn Fence.wide n P Q { a with defers := { target := .collected D, args := #[] } :: a.defers } W) :
    (Code.rangeFunc g ps assign body).wpIn Fence.wide n P Q a w := by
  refine wpIn_rangeFunc fun fn hfn => ?_
  let L := w.heap.size + 1
  let rec_ : LoopState → Option Code → Loop := fun st pe => { state := st, pending := pe, fn, tmps := a.tmps, params := ps, assign, body, defers := w.heap.size }
  obtain ⟨rec, hrec⟩ : ∃ rec : LoopState → Option Code → Loop, rec = rec_ := ⟨_, rfl⟩
  obtain ⟨W1, hW1⟩ : ∃ W1, (w.alloc (.deferred (some []))).alloc (.loop (rec .ready none)) = W1 := ⟨_, rfl⟩
  have hL1 : W1.heap[w.heap.size + 1]? = some (.loop (rec .ready none)) := by
    rw [← hW1]; have := World.alloc_heap_new (w.alloc (.deferred (some []))) (.loop (rec .ready none)); rwa [World.size_alloc] at this
  have hD1 : W1.heap[w.heap.size]? = some (.deferred (some [])) := by
    rw [← hW1]; exact (Below.heap_alloc _ _ _ (by simp)).trans (World.alloc_heap_new w _)
  have hI1 : I s0 W1 := by rw [← hW1]; exact hI.alloc _ (hI.alloc _ h0)
  refine ⟨w.heap.size + 1, [{ target := .collected w.heap.size, args := #[] }], W1, { target := .fn (.func gf) lb, args := #[.func (.yield (w.heap.size + 1)) #[] #[]] }, W1, gf,
    #[.func (.yield (w.heap.size + 1)) #[] #[]] ++ lb, W1, ?_, ?_, ?_, ?_, fun _ => h1, ?_⟩
  · rw [← hW1, hrec]; exact run_enterLoop_outer _ _ _ _ _
  · simp only [resolve, hg]
    simp [go_sem]
  · intro _ _; trivial
  · simp [invoke, go_sem, eg]
  · refine (hit (w.heap.size + 1)
      (fun s W => I s W ∧ W.heap[w.heap.size + 1]? = some (.loop (rec .ready none)) ∧ W.heap[w.heap.size]? = some (.deferred (some [])))
      (fun W => Ix W ∧ W.heap[w.heap.size + 1]? = some (.loop (rec .done (some .ret))) ∧ W.heap[w.heap.size]? = some (.deferred (some [])))
      W1 (fun _ _ h => h.1)
      (fun s s' W v h h' => ⟨h', (Below.heap_setCell _ _ _ _ (by show w.heap.size + 1 ≠ B; omega)).trans h.2.1, (Below.heap_setCell _ _ _ _ (by show w.heap.size ≠ B; omega)).trans h.2.2⟩)
      ?_ ⟨hI1, hL1, hD1⟩).mono ?_
    · rintro s x W ⟨hi, hl, hk⟩ hok
      have hlt : w.heap.size + 1 < W.heap.size := (Array.getElem?_eq_some_iff.1 hl).1
      have hy := run_yield (P := P) (args := #[.string x]) hl (by rw [hrec]; exact hps.symm)
      rw [hrec] at hy
      refine ⟨fn, _, assign, body, hy, roundIn_of_wpIn trivial (hassign _ x W _ ⟨_, run_beginRound hl (by rw [hrec]), ?_⟩)⟩
      have hl2 : (W.putObj (w.heap.size + 1) (.loop { rec .ready none with state := .busy })).heap[w.heap.size + 1]? = some (.loop { rec .ready none with state := .busy }) := World.putObj_heap_same hlt
      have hk2 : (W.putObj (w.heap.size + 1) (.loop { rec .ready none with state := .busy })).heap[w.heap.size]? = some (.deferred (some [])) := (World.putObj_heap_other (by omega)).trans hk
      refine wpIn_mono (hbody _ s x _ (hI.putObj _ hi (by omega) hl rfl) hok) ?_
      rintro e a3 W3 hp
      cases e with
      | normal =>
        obtain ⟨hk3, hi3⟩ := hp
        have hl3 := hk3.same _ _ (by omega) hl2 rfl
        have hr := run_endRound (P := P) none hl3
        exact ⟨_, _, hr, .inl ⟨rfl, hI.putObj _ hi3 (by omega) hl3 rfl, by rw [World.putObj_heap_same (Array.getElem?_eq_some_iff.1 hl3).1, hrec]; rfl,
          (World.putObj_heap_other (by omega)).trans (hk3.same _ _ (Nat.le_refl _) hk2 rfl)⟩⟩
      | ret =>
        obtain ⟨hk3, hi3⟩ := hp
        have hl3 := hk3.same _ _ (by omega) hl2 rfl
        have hr := run_endRound (P := P) (some .ret) hl3
        exact ⟨_, _, hr, .inr ⟨rfl, hIx.putObj (s := ()) _ hi3 (by omega) hl3 rfl, by rw [World.putObj_heap_same (Array.getElem?_eq_some_iff.1 hl3).1, hrec]; rfl,
          (World.putObj_heap_other (by omega)).trans (hk3.same _ _ (Nat.le_refl _) hk2 rfl)⟩⟩
      | exit id => exact hp.elim
      | goto t => exact hp.elim
      | panic ch => exact hp.elim
      | outgrown => exact hp.elim
    · rintro e W2 ⟨⟨v, rfl⟩, (⟨s, hF, hi, hl, hk⟩ | ⟨hi, hl, hk⟩)⟩
      · exact ⟨none, _, by have := run_endLoop (P := P) hl (by rw [hrec]; simp [rec_]); rw [hrec] at this; exact this, hdone _ s _ (Nat.le_refl _) hF (hI.putObj _ hi (by omega) hl rfl) ((World.putObj_heap_other (by omega)).trans hk)⟩
      · exact ⟨some .ret, _, by have := run_endLoop (P := P) hl (by rw [hrec]; simp [rec_]); rw [hrec] at this; exact this, hstop _ _ (Nat.le_refl _) (hIx.putObj (s := ()) _ hi (by omega) hl rfl) ((World.putObj_heap_other (by omega)).trans hk)⟩

end Go.Proofs.YtigdcgklpapfbaaGreatDoor

set_option linter.unusedVariables false
namespace Go.Proofs.YtigdcgklpapfbaaGreatDoor
open Go Go.Proofs Go.RowKit Go.Lib
attribute [local go_sem] Oper.semAt_some

theorem splitL_ne (l : Str) : splitL l ≠ [] := by
  cases l with
  | nil => simp [splitL]
  | cons c s => simp only [splitL]; split <;> simp
theorem splitL_none : ∀ (l : Str), indexByte l 44 < 0 → splitL l = [l]
  | [], _ => rfl
  | c :: s, h => by
    unfold indexByte at h
    split at h
    · omega
    · rename_i hc
      have hge := indexByte_ge s 44
      have hs : indexByte s 44 < 0 := by
        split at h
        · rename_i he; have := beq_iff_eq.1 he; omega
        · omega
      simp only [splitL, splitL_none s hs]
      rw [if_neg (fun e => hc (beq_iff_eq.2 e))]
      rfl
theorem splitL_at : ∀ (l : Str) (i : Nat), indexByte l 44 = i → splitL l = l.take i :: splitL (l.drop (i + 1))
  | [], i, h => by simp [indexByte] at h
  | c :: s, i, h => by
    unfold indexByte at h
    split at h
    · rename_i hc
      obtain rfl : i = 0 := by omega
      simp [splitL, beq_iff_eq.1 hc]
    · rename_i hc
      have hge := indexByte_ge s 44
      split at h
      · omega
      · obtain ⟨j, rfl⟩ : ∃ j, i = j + 1 := ⟨i - 1, by
          rename_i he
          have : indexByte s 44 ≠ -1 := fun e => he (beq_iff_eq.2 e)
          omega⟩
        have ih := splitL_at s j (by omega)
        simp only [splitL, ih]
        rw [if_neg (fun e => hc (beq_iff_eq.2 e))]
        rfl
theorem index_lt (l : Str) (i : Nat) (h : indexByte l 44 = i) : i < l.length := by
  have := (indexByte_some h).1
  rcases Nat.lt_or_ge i l.length with h' | h'
  · exact h'
  · rw [List.getElem?_eq_none h'] at this; cases this

abbrev St := List Str × ByteArray
def cellLen (B : Nat) (w : World) : Nat := match w.cell? ⟨B, 0, none⟩ with | some (.string r) => r.size | _ => 0
theorem cellLen_of {B : Nat} {w : World} {r : ByteArray} (h : w.cell? ⟨B, 0, none⟩ = some (.string r)) : cellLen B w = r.size := by unfold cellLen; rw [h]
/-- What the iterator's variables hold. -/
structure SplitVars (B : Nat) (r : ByteArray) (W : World) : Prop where
  s : W.cell? ⟨B, 0, none⟩ = some (.string r)
  fz : W.frozen? ⟨B, 0, none⟩ = false
  sep : W.cell? ⟨B + 1, 0, none⟩ = some (.string ⟨#[44]⟩)
  save : W.cell? ⟨B + 2, 0, none⟩ = some (.int .i64 0)

set_option maxHeartbeats 4000000 in
set_option maxRecDepth 100000 in
theorem split_iter (n : Nat) (B : Nat) (s : ByteArray) (hs : s.size ≤ 4611686018427387904) (I : St → World → Prop) (hc : ∀ st W, I st W → SplitVars B st.2 W)
    (hset : ∀ st r W, I st W → I (st.1, r) (W.setCell ⟨B, 0, none⟩ (.string r))) :
    IterAt n Tryz.prog 229 #[.pointer (some ⟨B + 1, 0, none⟩), .pointer (some ⟨B, 0, none⟩), .pointer (some ⟨B + 2, 0, none⟩)] B
      (fun st x => ∃ rest, splitL (lst s) = st.1 ++ lst x :: rest) (fun st x => (st.1 ++ [lst x], st.2)) (fun st => st.1 = splitL (lst s)) I ([], s) := by
  intro l J Jx W hJI hJs hY h0
  refine callsIn_of_wp Tryz.func229 rfl trivial ?_ rfl
  simp only [Tryz.ntmps229, List.size_toArray, List.length_cons, List.length_nil, Nat.reduceAdd, Nat.reduceSub, Array.replicate_succ, Array.replicate_zero, List.push_toArray, List.append_toArray, List.nil_append, List.cons_append]
  obtain ⟨c1, c2, c3, c4⟩ := hc _ _ (hJI _ _ h0)
  gi_wp2
  gi_loopw [] (fun wr => ∃ (pre : List Str) (r : ByteArray), splitL (lst s) = pre ++ splitL (lst r) ∧ r.size ≤ s.size ∧ J (pre, r) wr) (fun wr => cellLen B wr)
  case atStart => exact ⟨[], s, rfl, Nat.le_refl _, h0⟩
  case round =>
    obtain ⟨pre, r, hsp, hrs, hJ⟩ := hrel
    obtain ⟨d1, d2, d3, d4⟩ := hc _ _ (hJI _ _ hJ)
    have hmu := cellLen_of d1
    have cI := Tryz.strings_Index_one r 44 wr
    have hge := indexByte_ge r.data.toList 44
    by_cases hneg : indexByte r.data.toList 44 < 0
    · obtain ⟨fn, tmps, assign, body, hy, hR⟩ := hY (pre, r) r wr hJ ⟨[], by rw [hsp, splitL_none _ hneg]⟩
      gi_wp2_with fail
      refine ⟨trivial, fun h => (by cases h), ?_⟩
      refine (callsIn_wide.2 cI).mono ?_
      rintro e w' ⟨rfl, rfl⟩
      gi_wp2
      refine ⟨fun h => (by cases h), ?_⟩
      refine hR.mono ?_
      rintro e W3 (⟨rfl, hJ3⟩ | ⟨rfl, hJ3⟩)
      · gi_wp2
        go_end0
        exact ⟨⟨_, rfl⟩, .inl ⟨_, by rw [hsp, splitL_none _ hneg], hJ3⟩⟩
      · gi_wp2
        go_end0
        exact ⟨⟨_, rfl⟩, .inr hJ3⟩
    · obtain ⟨i, hi⟩ : ∃ i : Nat, indexByte r.data.toList 44 = i := ⟨(indexByte r.data.toList 44).toNat, by omega⟩
      have hil : i < r.size := by rw [Lib.size_eq]; exact index_lt _ _ hi
      have hsa := splitL_at (lst r) i hi
      rw [hi] at cI
      clear hneg hge
      obtain ⟨fn, tmps, assign, body, hy, hR⟩ := hY (pre, r) (r.extract 0 i) wr hJ ⟨_, by rw [hsp, hsa, lst_extract]; rfl⟩
      gi_wp2_with fail
      refine ⟨trivial, fun h => (by cases h), ?_⟩
      refine (callsIn_wide.2 cI).mono ?_
      rintro e w' ⟨rfl, rfl⟩
      gi_wp2
      refine ⟨fun h => (by cases h), ?_⟩
      refine hR.mono ?_
      rintro e W3 (⟨rfl, hJ3⟩ | ⟨rfl, hJ3⟩)
      · obtain ⟨e1, e2, e3, e4⟩ := hc _ _ (hJI _ _ hJ3)
        dsimp only at e1
        gi_wp2
        obtain ⟨R, hR2⟩ : ∃ R : ByteArray, r.extract (i + 1) r.size = R := ⟨_, rfl⟩
        have hlR : lst R = (lst r).drop (i + 1) := by rw [← hR2, lst_extract, List.take_of_length_le (by rw [← Lib.size_eq]; exact Nat.le_refl _)]
        have hRs : R.size < r.size := by rw [← hR2, ByteArray.size_extract]; omega
        rw [hR2, hmu]
        have hset2 := hset _ R _ (hJI _ _ hJ3)
        refine ⟨⟨pre ++ [lst (r.extract 0 i)], R, ?_, by omega, hJs _ _ _ _ hJ3 hset2⟩, ?_⟩
        · rw [hsp, hsa, lst_extract, hlR]
          simp
        · rw [cellLen_of (hc _ _ hset2).s]
          exact hRs
      · gi_wp2
        refine bodyPost_ret (results_none rfl _ _ _) rfl ?_
        exact ⟨⟨_, rfl⟩, .inr hJ3⟩

end Go.Proofs.YtigdcgklpapfbaaGreatDoor

set_option linter.unusedVariables false
namespace Go.Proofs.YtigdcgklpapfbaaGreatDoor
open Go Go.Proofs Go.RowKit Go.Lib
attribute [local go_sem] Oper.semAt_some

theorem splitL_mem : ∀ (l : Str) (p : Str), p ∈ splitL l → p.length ≤ l.length
  | [], p, h => by simp [splitL] at h; simp [h]
  | c :: s, p, h => by
    have ih := splitL_mem s
    simp only [splitL] at h
    split at h
    · rcases List.mem_cons.1 h with rfl | h
      · simp
      · have := ih p h; simp; omega
    · have hne := splitL_ne s
      obtain ⟨a, t, hat⟩ : ∃ a t, splitL s = a :: t := by cases hs : splitL s with | nil => exact absurd hs hne | cons a t => exact ⟨a, t, rfl⟩
      rw [hat] at h
      simp only [List.headD_cons, List.tail_cons] at h
      rcases List.mem_cons.1 h with rfl | h
      · have := ih a (by rw [hat]; exact .head _); simp; omega
      · have := ih p (by rw [hat]; exact .tail _ h); simp; omega
set_option maxHeartbeats 1000000 in
theorem splitSeq_any (s : ByteArray) (w : World) : Calls Tryz.prog 156 #[.string s, .string ⟨#[44]⟩] w fun e w' =>
    e = .returned (.func (.func 229) #[] #[.pointer (some ⟨w.heap.size + 1, 0, none⟩), .pointer (some ⟨w.heap.size, 0, none⟩), .pointer (some ⟨w.heap.size + 2, 0, none⟩)]) ∧
    w' = ((w.alloc (.cells #[.string s] 9)).alloc (.cells #[.string ⟨#[44]⟩] 9)).alloc (.cells #[.int .i64 0] 3) := by
  have c56 : Calls Tryz.prog 186 #[.string s, .string ⟨#[44]⟩, .int .i64 0] w fun e w' =>
      e = .returned (.func (.func 229) #[] #[.pointer (some ⟨w.heap.size + 1, 0, none⟩), .pointer (some ⟨w.heap.size, 0, none⟩), .pointer (some ⟨w.heap.size + 2, 0, none⟩)]) ∧
      w' = ((w.alloc (.cells #[.string s] 9)).alloc (.cells #[.string ⟨#[44]⟩] 9)).alloc (.cells #[.int .i64 0] 3) := by
    go_enter Tryz.func186, Tryz.ntmps186
    go_wp2
    go_ret
    exact ⟨rfl, rfl⟩
  go_enter Tryz.func156, Tryz.ntmps156
  go_wp2_with fail
  refine c56.mono ?_
  rintro e w' ⟨rfl, rfl⟩
  go_wp2
  go_ret
  exact ⟨rfl, rfl⟩

/-- Between two rounds. -/
structure LInv (N : Nat) (w : World) (n : Nat) (st : St) (W : World) : Prop where
  below : Below N w W
  size : N + 7 ≤ W.heap.size
  b0 : Boxed W N 3 (.int .i64 (n : Int))
  r1 : Boxed W (N + 1) 3 (.int .i64 0)
  r2 : Boxed W (N + 2) 26 (.int .i64 0)
  acc : Boxed W (N + 3) 3 (.int .i64 (((goP n st.1 0).1 : Nat) : Int))
  v1 : Boxed W (N + 4) 9 (.string st.2)
  v2 : Boxed W (N + 5) 9 (.string ⟨#[44]⟩)
  v3 : Boxed W (N + 6) 3 (.int .i64 0)
  ok : (goP n st.1 0).2 = 0
/-- A round has returned. -/
structure LErr (N : Nat) (w : World) (n : Nat) (s : Str) (W : World) : Prop where
  below : Below N w W
  out : ∃ e : Int, (goP n (splitL s) 0).2 = e ∧ e ≠ 0 ∧ Boxed W (N + 1) 3 (.int .i64 0) ∧ Boxed W (N + 2) 26 (.int .i64 e)
theorem LInv.kept {N n : Nat} {w : World} {st : St} {W W' : World} {row : Option Nat} (h : LInv N w n st W) (hN : N ≤ w.heap.size) (hg : W.grownBy W' row) (hr : ∀ r, row = some r → N + 7 ≤ r) : LInv N w n st W' := by
  have hne : ∀ B, B < N + 7 → some B ≠ row := fun B hB e => by have := hr B e.symm; omega
  have hs := h.below.size
  exact ⟨h.below.grown hg (by omega) (fun k e => by have := hr k e; omega), Nat.le_trans h.size hg.size, h.b0.kept hg (hne _ (by omega)), h.r1.kept hg (hne _ (by omega)), h.r2.kept hg (hne _ (by omega)), h.acc.kept hg (hne _ (by omega)),
    h.v1.kept hg (hne _ (by omega)), h.v2.kept hg (hne _ (by omega)), h.v3.kept hg (hne _ (by omega)), h.ok⟩
theorem LInv.own {N B n : Nat} {w : World} (hN : N ≤ w.heap.size) (hB : N + 7 ≤ B) : OwnFrom B (LInv N w n) := by
  intro st W W' row h hg hr
  exact h.kept hN hg (fun r e => by have := (hr r e).1; omega)
theorem LErr.own {N B n : Nat} {w : World} {s : Str} (hN : N ≤ w.heap.size) (hB : N + 7 ≤ B) : OwnFrom B (fun (_ : Unit) W => LErr N w n s W) := by
  rintro _ W W' row ⟨hb, e, he, h0, h1, h2⟩ hg hr
  have hne : ∀ B, B < N + 7 → some B ≠ row := fun B' hB' e => by have := (hr B' e.symm).1; omega
  have hs := hb.size
  exact ⟨hb.grown hg (by omega) (fun k e => by have := (hr k e).1; omega), e, he, h0, h1.kept hg (hne _ (by omega)), h2.kept hg (hne _ (by omega))⟩
theorem LInv.turn {N n : Nat} {w : World} {st : St} {W : World} (h : LInv N w n st W) (hN : N ≤ w.heap.size) (r : ByteArray) : LInv N w n (st.1, r) (W.setCell ⟨N + 4, 0, none⟩ (.string r)) := by
  have hg := grownBy_setCell' W (N + 4) (.string r)
  have hne : ∀ B, B ≠ N + 4 → some B ≠ some (N + 4) := fun B hB e => hB (by injection e)
  have hs := h.below.size
  exact ⟨h.below.grown hg (by omega) (fun k e => by injection e; omega), Nat.le_trans h.size hg.size, h.b0.kept hg (hne _ (by omega)), h.r1.kept hg (hne _ (by omega)), h.r2.kept hg (hne _ (by omega)), h.acc.kept hg (hne _ (by omega)), h.v1.set _, h.v2.kept hg (hne _ (by omega)), h.v3.kept hg (hne _ (by omega)), h.ok⟩
theorem LInv.vars {N n : Nat} {w : World} {st : St} {W : World} (h : LInv N w n st W) : SplitVars (N + 4) st.2 W := ⟨h.v1.cell, h.v1.frozen, h.v2.cell, h.v3.cell⟩
theorem results_cc {fn : Func} {p u : Tmp} {A B : TypeId} (h : fn.results = #[.cell p A, .cell u B]) (tmps : Array Value) (P : Program) (w : World) (a b : Addr) (va vb : Value)
    (ha : tmps.getD p undef = .pointer (some a)) (hb : tmps.getD u undef = .pointer (some b))
    (hla : (loadVar A a).run P w = .ok va w) (hlb : (loadVar B b).run P w = .ok vb w) : (results fn tmps).run P w = .ok (.tuple #[va, vb]) w := by
  rw [Array.getD_eq_getD_getElem?] at ha hb
  simp only [results, h]
  simp [Result.andThen, ha, hb, hla, hlb, asAddr]
theorem load3 {w : World} {k : Nat} {x : Value} (h0 : w.cell? ⟨k, 0, none⟩ = some x) : (loadVar 3 ⟨k, 0, none⟩).run Tryz.prog w = .ok x w := by
  simp [loadVar, go_sem, h0]
theorem loadE {w : World} {k : Nat} {x : Value} (h0 : w.cell? ⟨k, 0, none⟩ = some x) : (loadVar 26 ⟨k, 0, none⟩).run Tryz.prog w = .ok x w := by
  simp [loadVar, go_sem, h0]
theorem Boxed.under {W W2 : World} {B : Nat} {t : TypeId} {v : Value} (h : Boxed W B t v) (hb : Below W.heap.size W W2) : Boxed W2 B t v := (hb.block _ h.lt).trans h
theorem keeps_below {W W2 : World} (hb : Below W.heap.size W W2) : KeepsOthers W W2 := ⟨hb.size, fun k o hk _ => (hb.block k (Array.getElem?_eq_some_iff.1 hk).1).trans hk⟩
theorem LInv.under {N n : Nat} {w : World} {st : St} {W W2 : World} (h : LInv N w n st W) (hN : N ≤ w.heap.size) (hb : Below W.heap.size W W2) : LInv N w n st W2 := by
  have hs := h.size
  exact ⟨h.below.trans (hb.mono (by omega)), Nat.le_trans h.size hb.size, Boxed.under h.b0 hb, Boxed.under h.r1 hb, Boxed.under h.r2 hb, Boxed.under h.acc hb, Boxed.under h.v1 hb, Boxed.under h.v2 hb, Boxed.under h.v3 hb, h.ok⟩
/-- A round has gone on. -/
theorem LInv.step {N n : Nat} {w : World} {pre : List Str} {r : ByteArray} {W : World} {x : Str} {v : Nat} (h : LInv N w n (pre, r) W) (hN : N ≤ w.heap.size) (hx : goP n (pre ++ [x]) 0 = (v, 0)) :
    LInv N w n (pre ++ [x], r) (W.setCell ⟨N + 3, 0, none⟩ (.int .i64 (v : Int))) := by
  have hg := grownBy_setCell' W (N + 3) (.int .i64 (v : Int))
  have hne : ∀ B, B ≠ N + 3 → some B ≠ some (N + 3) := fun B hB e => hB (by injection e)
  have hs := h.below.size
  refine ⟨h.below.grown hg (by omega) (fun k e => by injection e; omega), Nat.le_trans h.size hg.size, h.b0.kept hg (hne _ (by omega)), h.r1.kept hg (hne _ (by omega)), h.r2.kept hg (hne _ (by omega)), ?_, h.v1.kept hg (hne _ (by omega)), h.v2.kept hg (hne _ (by omega)), h.v3.kept hg (hne _ (by omega)), by rw [hx]⟩
  rw [hx]
  exact h.acc.set _
theorem box_at {W : World} {n : Nat} (h : W.heap.size = n) (t : TypeId) (v : Value) : Boxed (W.alloc (.cells #[v] t)) n t v := by subst h; exact Boxed.new W t v
/-- Both results stored, the mark taken. -/
theorem parse_end {N D : Nat} {W : World} {u0 u1 v e : Value} (h1 : Boxed W (N + 1) 3 u0) (h2 : Boxed W (N + 2) 26 u1) (hD : N + 7 ≤ D) (hK : W.heap[D]? = some (.deferred (some []))) :
    ((W.setCell ⟨N + 1, 0, none⟩ v).setCell ⟨N + 2, 0, none⟩ e).heap[D]? = some (.deferred (some [])) ∧
    Boxed (((W.setCell ⟨N + 1, 0, none⟩ v).setCell ⟨N + 2, 0, none⟩ e).putObj D (.deferred none)) (N + 1) 3 v ∧ Boxed (((W.setCell ⟨N + 1, 0, none⟩ v).setCell ⟨N + 2, 0, none⟩ e).putObj D (.deferred none)) (N + 2) 26 e ∧
    Below N W (((W.setCell ⟨N + 1, 0, none⟩ v).setCell ⟨N + 2, 0, none⟩ e).putObj D (.deferred none)) := by
  have hg1 := grownBy_setCell' W (N + 1) v
  have hg2 := grownBy_setCell' (W.setCell ⟨N + 1, 0, none⟩ v) (N + 2) e
  have hg3 := grownBy_putObj' ((W.setCell ⟨N + 1, 0, none⟩ v).setCell ⟨N + 2, 0, none⟩ e) D (.deferred none)
  have hne : ∀ a b : Nat, a ≠ b → some a ≠ some b := fun a b h e => h (by injection e)
  have hlt := h2.lt
  have k0 : ((W.setCell ⟨N + 1, 0, none⟩ v).setCell ⟨N + 2, 0, none⟩ e).heap[D]? = some (.deferred (some [])) := (KeepsOthers.setCell _ _ _).same D _ ((KeepsOthers.setCell W _ _).same D _ hK rfl) rfl
  refine ⟨k0, ((h1.set v).kept hg2 (hne _ _ (by omega))).kept hg3 (hne _ _ (by omega)), ((h2.kept hg1 (hne _ _ (by omega))).set e).kept hg3 (hne _ _ (by omega)), ?_⟩
  exact (((Below.refl N W).grown hg1 (by omega) (fun k e => by injection e; omega)).grown hg2 (by have := hg1.size; omega) (fun k e => by injection e; omega)).grown hg3 (by have := hg1.size; have := hg2.size; omega) (fun k e => by injection e; omega)

theorem goP_zero (n : Nat) : ∀ xs acc, (goP n xs acc).2 ≠ 0 → goP n xs acc = (0, (goP n xs acc).2)
  | [], acc, h => absurd rfl h
  | x :: xs, acc, h => by
    by_cases hx : (itemM x n).2 = 0
    · rw [goP_ok hx] at h ⊢
      exact goP_zero n xs _ h
    · rw [goP_err hx]
set_option maxHeartbeats 8000000 in
set_option maxRecDepth 100000 in
theorem parse_any (s : ByteArray) (hz : s.size ≤ 4611686018427387904) (N : Int) (w : World) (hE : Env w) : Calls Tryz.prog 119 #[.string s, .int .i64 N] w (ItemOut (parseM (lst s) N) w) := by
  have cL := isLength_any N
  refine (callsIn_wide (n := 9)).1 ?_
  refine callsIn_of_wp_marks Tryz.func119 rfl trivial ?_ rfl
  simp only [Tryz.ntmps119, List.size_toArray, List.length_cons, List.length_nil, Nat.reduceAdd, Nat.reduceSub, Array.replicate_succ, Array.replicate_zero, List.push_toArray, List.append_toArray, List.nil_append, List.cons_append]
  by_cases hN : 1 ≤ N ∧ N ≤ 20
  · obtain ⟨n, rfl⟩ := natN (show 0 ≤ N by omega)
    rw [show lenB (n : Int) = true from decide_eq_true hN] at cL
    have hM : parseM (lst s) (n : Int) = parseN (lst s) n := by
      unfold parseM
      rw [if_pos hN, Int.toNat_natCast]
    rw [hM]
    clear hM
    obtain ⟨R, hR⟩ : ∃ R, parseN (lst s) n = R := ⟨_, rfl⟩
    rw [hR]
    have HR := hid hR
    have hEv := hE.size
    clear hR
    gi_wp2_with fail
    refine ⟨trivial, ?_⟩
    refine (callsIn_wide.2 (cL _)).mono ?_
    rintro e w' ⟨rfl, rfl⟩
    gi_wp2_with fail
    refine ⟨trivial, ?_⟩
    refine (callsIn_wide.2 (splitSeq_any s _)).mono ?_
    rintro e w' ⟨rfl, rfl⟩
    gi_wp2
    obtain ⟨W0, hW0⟩ : ∃ W0, (((((((w.alloc (Obj.cells #[Value.int IntKind.i64 (n : Int)] 3)).alloc (Obj.cells #[Value.int IntKind.i64 0] 3)).alloc (Obj.cells #[Value.int IntKind.i64 0] 26)).alloc (Obj.cells #[Value.int IntKind.i64 0] 3)).alloc (Obj.cells #[Value.string s] 9)).alloc (Obj.cells #[Value.string { data := #[44] }] 9)).alloc (Obj.cells #[Value.int IntKind.i64 0] 3)) = W0 := ⟨_, rfl⟩
    rw [hW0]
    have hI0 : LInv w.heap.size w n ([], s) W0 := by
      rw [← hW0]
      exact ⟨(((((((Below.refl _ w).alloc (Nat.le_refl _) _).alloc (by simp) _).alloc (by simp; omega) _).alloc (by simp; omega) _).alloc (by simp; omega) _).alloc (by simp; omega) _).alloc (by simp; omega) _, by simp,
        ((((((box_at rfl 3 _).alloc _).alloc _).alloc _).alloc _).alloc _).alloc _, (((((box_at (by simp) 3 _).alloc _).alloc _).alloc _).alloc _).alloc _, ((((box_at (by simp) 26 _).alloc _).alloc _).alloc _).alloc _, (((box_at (by simp) 3 _).alloc _).alloc _).alloc _,
        ((box_at (by simp) 9 _).alloc _).alloc _, (box_at (by simp) 9 _).alloc _, box_at (by simp) 3 _, rfl⟩
    have hz0 : w.heap.size + 7 ≤ W0.heap.size := hI0.size
    clear hW0
    refine range_own (by omega) (gf := 229) (lb := #[.pointer (some ⟨w.heap.size + 4 + 1, 0, none⟩), .pointer (some ⟨w.heap.size + 4, 0, none⟩), .pointer (some ⟨w.heap.size + 4 + 2, 0, none⟩)]) rfl (enters_of Tryz.func229 (by kernel_rfl) rfl) (w.heap.size + 4) (by omega)
      (fun st x => ∃ rest, splitL (lst s) = st.1 ++ lst x :: rest) (fun st x => (st.1 ++ [lst x], st.2)) (fun st => st.1 = splitL (lst s)) (LInv w.heap.size w n) (LErr w.heap.size w n (lst s)) ([], s)
      (split_iter _ (w.heap.size + 4) s (by omega) _ (fun st W h => h.vars) (fun st r W h => h.turn (Nat.le_refl _) r)) rfl (LInv.own (Nat.le_refl _) hz0) (LErr.own (Nat.le_refl _) hz0) hI0
      (fun x => { tmps := #[.string s, .int .i64 (n : Int), undef, .pointer (some ⟨w.heap.size, 0, none⟩), .pointer (some ⟨w.heap.size + 1, 0, none⟩), .pointer (some ⟨w.heap.size + 1 + 1, 0, none⟩), .pointer (some ⟨w.heap.size + 1 + 1 + 1, 0, none⟩), .string x, undef, undef, .int .i64 (n : Int), .bool true, .bool false, .string s,
        .func (.func 229) #[] #[.pointer (some ⟨w.heap.size + 1 + 1 + 1 + 1 + 1, 0, none⟩), .pointer (some ⟨w.heap.size + 1 + 1 + 1 + 1, 0, none⟩), .pointer (some ⟨w.heap.size + 1 + 1 + 1 + 1 + 2, 0, none⟩)],
        .string x, undef, undef, undef, undef, undef, undef, undef, undef, undef, undef, undef, undef, undef, undef, undef], defers := [] }) ?assign ?body ?done ?stop
    case assign =>
      intro l x W K hK
      gi_wp2
      exact hK
    case body =>
      rintro l ⟨pre, r⟩ x W hI ⟨rest, hrest⟩
      have hok := hI.ok
      dsimp only at hok hrest ⊢
      have hxs : x.size ≤ 4611686018427387904 := by
        have := splitL_mem (lst s) (lst x) (by rw [hrest]; simp)
        rw [show (lst x).length = x.size from (Lib.size_eq x).symm, show (lst s).length = s.size from (Lib.size_eq s).symm] at this
        omega
      obtain ⟨acc, hacc⟩ : ∃ acc, (goP n pre 0).1 = acc := ⟨_, rfl⟩
      have hgo : ∀ qs, goP n (pre ++ qs) 0 = goP n qs acc := fun qs => by rw [goP_app _ _ _ _ hok, hacc]
      have hal : acc < 2 ^ n := by rw [← hacc]; exact goP_lt n pre 0 (Nat.two_pow_pos n)
      have hEW : Env W := hE.below hI.below (by omega)
      have cP := readItem_any x hxs n (by omega) (by omega) W hEW
      obtain ⟨⟨iv, ie⟩, hR⟩ : ∃ R, itemM (lst x) n = R := ⟨_, rfl⟩
      have hil : iv < 2 ^ n := by have := item_lt (lst x) n; rw [hR] at this; exact this
      have hpN : 2 ^ n ≤ 1048576 := pow_le (show n ≤ 20 by omega)
      have hor := bw_or acc iv (by omega) (by omega)
      rw [hR] at cP
      unfold ItemOut at cP
      dsimp only at cP
      have hb0 := hI.b0.cell
      have HI := hid hI
      have HGo := hid hgo
      have HR1 := hid hR
      clear hgo hok hEW hI hR hil
      by_cases h2 : ie = 0
      · subst h2
        have hG : Hid (goP n (pre ++ [lst x]) 0 = (acc ||| iv, 0)) := hid (by rw [HGo.out, goP_ok (by rw [HR1.out]), HR1.out]; rfl)
        obtain ⟨O, hO⟩ : ∃ O, acc ||| iv = O := ⟨_, rfl⟩
        rw [hO] at hor hG
        clear hO
        gi_wp2_with fail
        refine ⟨trivial, ?_⟩
        refine (CallsIn.inRound l (callsIn_wide.2 cP)).mono ?_
        rintro e W2 ⟨rfl, hb2⟩
        have hI2 := HI.out.under (Nat.le_refl _) hb2
        have ha2 := hI2.acc
        dsimp only at ha2
        rw [hacc] at ha2
        have g1 := ha2.cell
        have g2 := ha2.frozen
        have HI2 := hid hI2
        have HB2 := hid hb2
        clear hI2 hb2 ha2
        gi_wp2
        exact ⟨((keeps_below HB2.out).trans (KeepsOthers.setCell _ _ _)).from _, HI2.out.step (Nat.le_refl _) hG.out⟩
      · have hG : Hid (goP n (splitL (lst s)) 0 = (0, ie)) := hid (by rw [hrest, HGo.out, goP_err (by rw [HR1.out]; exact h2), HR1.out])
        have hne : (ie != 0) = true := by simpa using h2
        clear hor
        gi_wp2_with fail
        refine ⟨trivial, ?_⟩
        refine (CallsIn.inRound l (callsIn_wide.2 cP)).mono ?_
        rintro e W2 ⟨rfl, hb2⟩
        have hI2 := HI.out.under (Nat.le_refl _) hb2
        have k1 := hI2.r1
        have k2 := hI2.r2
        have f1 := k1.frozen
        have f2 := k2.frozen
        have g1 := k1.cell
        have g2 := k2.cell
        gi_wp2
        have q1 := grownBy_setCell' W2 (w.heap.size + 1) (.int .i64 0)
        have q2 := grownBy_setCell' (W2.setCell ⟨w.heap.size + 1, 0, none⟩ (.int .i64 0)) (w.heap.size + 2) (.int .i64 ie)
        have hne' : ∀ a b : Nat, a ≠ b → some a ≠ some b := fun a b h e => h (by injection e)
        refine ⟨(((keeps_below hb2).trans (KeepsOthers.setCell _ _ _)).trans (KeepsOthers.setCell _ _ _)).from _, ⟨?_, ie, by rw [hG.out], h2, (k1.set _).kept q2 (hne' _ _ (by omega)), (k2.kept q1 (hne' _ _ (by omega))).set _⟩⟩
        have hz2 := hI2.size
        exact (hI2.below.grown q1 (by omega) (fun k e => by injection e; omega)).grown q2 (by have := q1.size; omega) (fun k e => by injection e; omega)
    case done =>
      rintro D ⟨pre, r⟩ W hD hfin hI hK
      have hok := hI.ok
      have hacc := hI.acc
      dsimp only at hfin hok hacc
      rw [hfin] at hok hacc
      have f1 := hI.r1.frozen
      have f2 := hI.r2.frozen
      have g1 := hI.r1.cell
      have g2 := hI.r2.cell
      have hBelow := hI.below
      obtain ⟨acc, ha⟩ : ∃ acc, (goP n (splitL (lst s)) 0).1 = acc := ⟨_, rfl⟩
      have hr := parseN_of HR.out (show goP n (splitL (lst s)) 0 = (acc, 0) by rw [← ha, ← hok])
      rw [ha] at hacc
      have g3 := hacc.cell
      by_cases h0 : acc = 0
      · subst h0
        obtain rfl : R = (0, 16) := by rw [hr, if_pos rfl]
        clear hr ha
        gi_wp2
        obtain ⟨k0, k1, k2, k3⟩ := parse_end (v := .int .i64 0) (e := .int .i64 16) hI.r1 hI.r2 (D := D) (by omega) hK
        refine ⟨by simp, .inl ⟨_, _, rfl, run_takeDeferred k0, ?_⟩⟩
        exact ⟨_, results_cc rfl _ _ _ _ _ _ _ rfl rfl (load3 k1.cell) (loadE k2.cell), rfl, hBelow.trans k3⟩
      · obtain rfl : R = (acc, 0) := by rw [hr, if_neg h0]
        have hz0 : ((acc : Int) == 0) = false := by simpa using h0
        clear hr ha
        gi_wp2
        obtain ⟨k0, k1, k2, k3⟩ := parse_end (v := .int .i64 (acc : Int)) (e := .int .i64 0) hI.r1 hI.r2 (D := D) (by omega) hK
        refine ⟨by simp, .inl ⟨_, _, rfl, run_takeDeferred k0, ?_⟩⟩
        exact ⟨_, results_cc rfl _ _ _ _ _ _ _ rfl rfl (load3 k1.cell) (loadE k2.cell), rfl, hBelow.trans k3⟩
    case stop =>
      rintro D W hD ⟨hb, e, he, hne0, h1, h2⟩ hK
      have hg0 : goP n (splitL (lst s)) 0 = (0, e) := by
        have := goP_zero n (splitL (lst s)) 0 (by rw [he]; exact hne0)
        rw [← he, ← this]
      obtain rfl := parseN_err HR.out hg0 hne0
      have hg3 := grownBy_putObj' W D (.deferred none)
      have hne' : ∀ a b : Nat, a ≠ b → some a ≠ some b := fun a b h e => h (by injection e)
      gi_wp2
      refine ⟨by simp, .inl ⟨_, _, rfl, run_takeDeferred hK, ?_⟩⟩
      exact ⟨_, results_cc rfl _ _ _ _ _ _ _ rfl rfl (load3 (h1.kept hg3 (hne' _ _ (by omega))).cell) (loadE (h2.kept hg3 (hne' _ _ (by omega))).cell), rfl, hb.grown hg3 hb.size (fun k e => by injection e; omega)⟩
  · rw [show lenB N = false from decide_eq_false hN] at cL
    have hM : parseM (lst s) N = (0, 3) := if_neg hN
    rw [hM]
    gi_wp2_with fail
    refine ⟨trivial, ?_⟩
    refine (callsIn_wide.2 (cL _)).mono ?_
    rintro e w' ⟨rfl, rfl⟩
    gi_wp2
    refine ⟨_, results_cc rfl _ _ _ _ _ _ _ rfl rfl (load3 (x := .int .i64 0) ?_) (loadE (x := .int .i64 3) ?_), rfl, (((Below.refl _ w).alloc (Nat.le_refl _) _).alloc (by simp) _).alloc (by simp; omega) _⟩
    · exact Boxed.cell ((box_at (by simp) 3 _).alloc _)
    · exact Boxed.cell (box_at (by simp) 26 _)
end Go.Proofs.YtigdcgklpapfbaaGreatDoor
