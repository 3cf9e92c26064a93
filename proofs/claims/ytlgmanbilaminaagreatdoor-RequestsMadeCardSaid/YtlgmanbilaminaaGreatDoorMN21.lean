/-
  What holds while curricula are read out of records. Conditions: as stated. Fields of a request: a priority, a list of codes. Conditions: the variables hold .. Conditions: as stated.
-/
import Derived.Test.YtlgmanbilaminaaGreatDoorMN15
import Derived.Lib.AppendZerosOnto
set_option linter.unusedVariables false
namespace Go.Proofs.YtlgmanbilaminaaGreatDoor.S12
open Go Go.Proofs Go.RowKit Go.Lib Go.Proofs.YtlgmanbilaminaaGreatDoor
theorem Gr2.grown {M N : Nat} {a b c : World} {row : Option Nat} (h : Gr2 M N a b) (hg : b.grownBy c row) (hr : ∀ j, row = some j → a.heap.size ≤ j) : Gr2 M N a c :=
  ⟨hg.os.trans h.os, hg.tape.trans h.tape, hg.output.trans h.output, Nat.le_trans h.size hg.size, fun k hk h1 h2 => (hg.block k (Nat.lt_of_lt_of_le hk h.size) (fun e => by have := hr k e.symm; omega)).trans (h.block k hk h1 h2)⟩
structure EInv (cp : Cap) (w : World) (rs : List ReqD) (ps : List ProbD) (cs : List ReqD) (v1 v2 : Value) (W : World) : Prop where
  row : ∃ Lr : List (ReqD × ReqA), Lr.map (·.1) = rs ∧ W.ownsRow w.heap.size 61 4 v1 Lr.length (reqVals Lr) ∧ ∀ p ∈ Lr, ReqIn W (fun k => w.heap.size ≤ k ∧ k < W.heap.size ∧ some k ≠ v1.ownBlock ∧ some k ≠ v2.ownBlock) p.1 p.2
  probs : ProbsRow W w.heap.size v2 ps
  acc : Acc W cp cs
  gr : Gr2 cp.M cp.N w W
theorem EInv.start {cp : Cap} {w : World} (h : Acc w cp []) : EInv cp w [] [] [] (.slice none 0 0) (.slice none 0 0) w :=
  ⟨⟨[], rfl, World.ownsRow_nil _ _ _ _, fun p hp => by simp at hp⟩, World.ownsRow_nil _ _ _ _, h, Gr2.refl _ _ _⟩
theorem EInv.below {cp : Cap} {B : Nat} {w W : World} {rs : List ReqD} {ps : List ProbD} {cs : List ReqD} {v1 v2 : Value} (h : EInv cp w rs ps cs v1 v2 W) (hB : B ≤ w.heap.size) (h1 : B ≤ cp.M) (h2 : B ≤ cp.N) : Below B w W := h.gr.under hB h1 h2
section
variable {cp : Cap} {w W W' : World} {rs : List ReqD} {ps : List ProbD} {cs cs' : List ReqD} {v1 v2 : Value}
theorem EInv.past (h : EInv cp w rs ps cs v1 v2 W) (hM : cp.M < w.heap.size) (hN : cp.N < w.heap.size) (hg : Gr2 cp.M cp.N W W') (hk : Acc W' cp cs') : EInv cp w rs ps cs' v1 v2 W' := by
  obtain ⟨⟨Lr, hL, ho, hr⟩, hp, _, hb⟩ := h
  have hs := hg.size
  have hbs := hb.size
  have e1 : v1.ownBlock ≠ some cp.M := fun e => by have := (own_lt ho cp.M e).1; omega
  have e2 : v2.ownBlock ≠ some cp.M := fun e => by have := (own_lt hp cp.M e).1; omega
  have e3 : v1.ownBlock ≠ some cp.N := fun e => by have := (own_lt ho cp.N e).1; omega
  have e4 : v2.ownBlock ≠ some cp.N := fun e => by have := (own_lt hp cp.N e).1; omega
  refine ⟨⟨Lr, hL, hg.row ho e1 e3, fun p hp' => ?_⟩, hg.row hp e2 e4, hk, hb.trans hg⟩
  exact ((hr p hp').kept (fun k hk => hg.block k hk.2.1 (by omega) (by omega))).mono (fun k hk => ⟨hk.1, by omega, hk.2.2⟩)
theorem EInv.under (h : EInv cp w rs ps cs v1 v2 W) (hM : cp.M < w.heap.size) (hN : cp.N < w.heap.size) (hb : Below W.heap.size W W') : EInv cp w rs ps cs v1 v2 W' :=
  h.past hM hN (Gr2.below hb) (h.acc.below hb)
theorem EInv.prob {v2' : Value} {p : ProbD} (h : EInv cp w rs ps cs v1 v2 W) (hM : cp.M < w.heap.size) (hN : cp.N < w.heap.size) (hown : ProbsRow W' w.heap.size v2' (ps ++ [p])) (hg : W.grownBy W' v2.ownBlock) (hat : v2'.ownBlock = v2.ownBlock ∨ ∃ k, v2'.ownBlock = some k ∧ W.heap.size ≤ k) : EInv cp w rs (ps ++ [p]) cs v1 v2' W' := by
  obtain ⟨⟨Lr, hL, ho, hr⟩, hp, hk, hb⟩ := h
  have hs := hg.size
  have hbs := hb.size
  have e2 : some cp.M ≠ v2.ownBlock := fun e => by have := (own_lt hp cp.M e.symm).1; omega
  have e4 : some cp.N ≠ v2.ownBlock := fun e => by have := (own_lt hp cp.N e.symm).1; omega
  refine ⟨⟨Lr, hL, World.ownsRow.kept ho hg (kinds_ne ho hp (by decide)), fun p hp' => ?_⟩, hown, ⟨hk.m.kept hg e2, hk.s.kept hg e4⟩, hb.grown hg (fun j hj => (own_lt hp j hj).1)⟩
  refine ((hr p hp').kept (fun k hk => hg.block k hk.2.1 hk.2.2.2)).mono (fun k hk => ⟨hk.1, by omega, hk.2.2.1, ?_⟩)
  rcases hat with e | ⟨j, e, hj⟩
  · rw [e]; exact hk.2.2.2
  · rw [e]; intro e0; injection e0 with e0; have := hk.2.1; omega
theorem EInv.room {v1' : Value} {r : ReqD} {q : ReqA} {C : Nat} (h : EInv cp w rs ps cs v1 v2 W) (hM : cp.M < w.heap.size) (hN : cp.N < w.heap.size)
    (hr' : ReqIn W (fun k => C ≤ k ∧ k < W.heap.size) r q) (hC : w.heap.size ≤ C) (h1 : ∀ k, v1.ownBlock = some k → k < C) (h2 : ∀ k, v2.ownBlock = some k → k < C)
    {Lr : List (ReqD × ReqA)} (hL : Lr.map (·.1) = rs) (ho : W.ownsRow w.heap.size 61 4 v1 Lr.length (reqVals Lr)) (hr : ∀ p ∈ Lr, ReqIn W (fun k => w.heap.size ≤ k ∧ k < W.heap.size ∧ some k ≠ v1.ownBlock ∧ some k ≠ v2.ownBlock) p.1 p.2)
    (hown : W'.ownsRow w.heap.size 61 4 v1' (Lr.length + 1) (reqVals Lr ++ reqVs r q))
    (hg : W.grownBy W' v1.ownBlock) (hat : v1'.ownBlock = v1.ownBlock ∨ ∃ k, v1'.ownBlock = some k ∧ W.heap.size ≤ k) : EInv cp w (rs ++ [r]) ps cs v1' v2 W' := by
  obtain ⟨_, hp, hk, hb⟩ := h
  have hs := hg.size
  have hbs := hb.size
  have e1 : some cp.M ≠ v1.ownBlock := fun e => by have := (own_lt ho cp.M e.symm).1; omega
  have e3 : some cp.N ≠ v1.ownBlock := fun e => by have := (own_lt ho cp.N e.symm).1; omega
  have hne : ∀ k, k < W.heap.size → some k ≠ v1.ownBlock → some k ≠ v1'.ownBlock := by
    intro k hk hne
    rcases hat with e | ⟨j, e, hj⟩
    · rw [e]; exact hne
    · rw [e]; intro e0; injection e0 with e0; omega
  refine ⟨⟨Lr ++ [(r, q)], by rw [List.map_append, hL]; rfl, ?_, fun p hp' => ?_⟩, World.ownsRow.kept hp hg (kinds_ne hp ho (by decide)), ⟨hk.m.kept hg e1, hk.s.kept hg e3⟩, hb.grown hg (fun j hj => (own_lt ho j hj).1)⟩
  · rw [reqVals_app, List.length_append, List.length_singleton]
    simpa [reqVals] using hown
  · rcases List.mem_append.1 hp' with hp' | hp'
    · exact ((hr p hp').kept (fun k hk => hg.block k hk.2.1 hk.2.2.1)).mono (fun k hk => ⟨hk.1, by omega, hne k hk.2.1 hk.2.2.1, hk.2.2.2⟩)
    · rw [List.mem_singleton] at hp'
      subst hp'
      have k1 : ∀ k, C ≤ k → some k ≠ v1.ownBlock := fun k hk e => by have := h1 k e.symm; omega
      have k2 : ∀ k, C ≤ k → some k ≠ v2.ownBlock := fun k hk e => by have := h2 k e.symm; omega
      exact (hr'.kept (fun k hk => hg.block k hk.2 (k1 k hk.1))).mono (fun k hk => ⟨by omega, by omega, hne k hk.2 (k1 k hk.1), k2 k hk.1⟩)
end
def EntsOut (cp : Cap) (o : List ReqD × List ProbD) (w : World) (e : Ending) (w' : World) : Prop := ∃ v1 v2, e = .returned (.tuple #[v1, v2]) ∧ EInv cp w o.1 o.2 o.1 v1 v2 w'
def Num1Out (s : ByteArray) (w : World) (e : Ending) (w' : World) : Prop :=
  e = .returned (.tuple #[.int .i64 ((numD 1 (lst s) : Nat) : Int), .bool (decide (numD 1 (lst s) ≠ 0))]) ∧ Below w.heap.size w w'
set_option maxHeartbeats 2000000 in
theorem padded1_any (s : ByteArray) (hz9 : ∀ a r, lst s = a :: r → a ≠ 48) (hz : s.size ≤ 4611686018427387904) (w : World) (hE : S3.Env w) : Calls Tryz.prog 122 #[.string s, .int .i64 1] w (Num1Out s w) := by
  unfold Num1Out
  obtain ⟨N, hN⟩ : ∃ N, numD 1 (lst s) = N := ⟨_, rfl⟩
  rw [hN]
  by_cases h0 : 0 < s.size
  · obtain ⟨x1, x2, x3, x4⟩ := str_no h0
    obtain ⟨r, hr⟩ := lst_cons h0
    by_cases h2 : s.size ≤ 1
    · have h2' : (s.size : Int) ≤ 1 := by omega
      have h2'' : ¬ (1 : Int) < s.size := by omega
      obtain ⟨a, ha⟩ : ∃ a, s[0]'h0 = a := ⟨_, rfl⟩
      rw [ha] at hr
      have h48 : a.toNat ≠ 48 := fun e => hz9 a r hr (UInt8.toNat_inj.1 (by show a.toNat = 48; exact e))
      by_cases h3 : a.toNat < 49
      · have h3' : (a.toNat : Int) < 48 := by omega
        have : N = 0 := by rw [← hN, hr, numD_low h3]
        subst this
        clear hN hr hE hz9 h48
        go_enter Tryz.func122, Tryz.ntmps122
        go_wp2
        go_ret2
        exact ⟨rfl, Below.refl _ _⟩
      · have h3' : ¬ (a.toNat : Int) < 48 := by omega
        have hat := atoi_numD 1 (lst s) a r hr (by rw [← Lib.size_eq]; exact h2) (by omega)
        rw [hN] at hat
        obtain ⟨ev, hev, hev2⟩ := hE.ev
        by_cases hn0 : N = 0
        · subst hn0
          rw [if_pos rfl] at hat
          have cA := hid (Tryz.strconv_Atoi_err s (by omega) hat ev w hev hev2)
          clear hN hr hE hz9 h48 hat hev hev2
          go_enter Tryz.func122, Tryz.ntmps122
          go_wp2_with fail
          refine cA.out.mono ?_
          rintro e w' ⟨M, rfl, _, _, hb⟩
          have HB := hid hb
          clear hb
          go_wp2
          go_ret2
          exact ⟨rfl, HB.out⟩
        · rw [if_neg hn0] at hat
          have cA := hid (Tryz.strconv_Atoi s N (by omega) hat w)
          have hd : decide (N ≠ 0) = true := decide_eq_true hn0
          rw [hd]
          clear hN hr hE hz9 h48 hat hev hev2 hd hn0
          go_enter Tryz.func122, Tryz.ntmps122
          go_wp2_with fail
          refine cA.out.mono ?_
          rintro e w' ⟨rfl, t, hw⟩
          have HB : Hid (Below w.heap.size w w') := hid (by rw [hw]; exact Lib.bytesWorld_below _ _ _)
          clear hw
          go_wp2
          go_ret2
          exact ⟨rfl, HB.out⟩
    · have h2' : ¬ (s.size : Int) ≤ 1 := by omega
      have h2'' : (1 : Int) < s.size := by omega
      have : N = 0 := by rw [← hN, numD_long (by rw [← Lib.size_eq]; omega)]
      subst this
      clear hN hr hE hz9
      go_enter Tryz.func122, Tryz.ntmps122
      go_wp2
      go_ret2
      exact ⟨rfl, Below.refl _ _⟩
  · obtain ⟨x1, x2, x3, x4⟩ := str_yes h0
    have : N = 0 := by rw [← hN, lst_nil h0]; rfl
    subst this
    clear hN hE hz9
    go_enter Tryz.func122, Tryz.ntmps122
    go_wp2
    go_ret2
    exact ⟨rfl, Below.refl _ _⟩
theorem hasPrefix_one1 (a : UInt8) (r : Str) : Lib.hasPrefix (a :: r) [48] = (a == 48) := by
  show ((48 : UInt8) == a && ([] : Str).isPrefixOf r) = (a == 48)
  rw [Bool.eq_iff_iff]
  simp
  exact eq_comm
set_option maxHeartbeats 2000000 in
theorem read1_any (s : ByteArray) (hz : s.size ≤ 4611686018427387904) (w : World) (hE : S3.Env w) : Calls Tryz.prog 89 #[.string s, .int .i64 1] w (Num1Out s w) := by
  have cH := fun w => Tryz.strings_HasPrefix s ⟨#[48]⟩ w
  rw [show s.data.toList = lst s from rfl, show (⟨#[48]⟩ : ByteArray).data.toList = [48] from rfl] at cH
  by_cases h9 : ∃ r, lst s = 48 :: r
  · obtain ⟨r, hr⟩ := h9
    have hN : numD 1 (lst s) = 0 := by rw [hr]; exact numD_low (by decide)
    unfold Num1Out
    rw [hN]
    rw [hr, hasPrefix_one1] at cH
    clear hr hN hE
    go_enter Tryz.func89, Tryz.ntmps89
    go_wp2_with fail
    refine (cH _).mono ?_
    rintro e w' ⟨rfl, rfl⟩
    go_wp2
    go_ret2
    exact ⟨rfl, Below.refl _ _⟩
  · have hp : Lib.hasPrefix (lst s) [48] = false := by
      cases hl : lst s with
      | nil => rfl
      | cons a r =>
        rw [hasPrefix_one1, beq_eq_false_iff_ne]
        rintro rfl
        exact h9 ⟨r, hl⟩
    rw [hp] at cH
    have cP := padded1_any s (fun a r hr e => h9 ⟨r, by rw [hr, e]⟩) hz w hE
    unfold Num1Out at cP ⊢
    obtain ⟨N, hN⟩ : ∃ N, numD 1 (lst s) = N := ⟨_, rfl⟩
    rw [hN] at cP ⊢
    obtain ⟨D, hD⟩ : ∃ D, decide (N ≠ 0) = D := ⟨_, rfl⟩
    rw [hD] at cP ⊢
    have CP := hid cP
    clear hp hN h9 hE cP hD
    go_enter Tryz.func89, Tryz.ntmps89
    go_wp2_with fail
    refine (cH _).mono ?_
    rintro e w' ⟨rfl, rfl⟩
    go_wp2_with fail
    refine CP.out.mono ?_
    rintro e w' ⟨rfl, hb⟩
    have HB := hid hb
    clear hb
    go_wp2
    go_ret2
    exact ⟨rfl, HB.out⟩
set_option maxHeartbeats 2000000 in
theorem readPriority_any (s : ByteArray) (hz : s.size ≤ 4611686018427387904) (w : World) (hE : S3.Env w) : Calls Tryz.prog 65 #[.string s] w fun e w' => e = .returned (.tuple #[.int .i64 (priM (lst s)).1, .int .i64 (priM (lst s)).2]) ∧ Below w.heap.size w w' := by
  have cR := hid (read1_any s hz w hE)
  unfold priM
  unfold Num1Out at cR
  by_cases h : numD 1 (lst s) = 0
  · rw [if_pos h]
    have cR' := cR.out
    rw [h, decide_eq_false (fun k => k rfl)] at cR'
    have CR := hid cR'
    clear cR cR' h hE
    go_enter Tryz.func65, Tryz.ntmps65
    go_wp2_with fail
    refine CR.out.mono ?_
    rintro e w' ⟨rfl, hb⟩
    have HB := hid hb
    clear hb
    go_wp2
    go_ret2
    exact ⟨rfl, HB.out⟩
  · rw [if_neg h]
    have cR' := cR.out
    rw [decide_eq_true h] at cR'
    obtain ⟨N, hN⟩ : ∃ N, numD 1 (lst s) = N := ⟨_, rfl⟩
    rw [hN] at cR' ⊢
    have CR := hid cR'
    clear cR cR' h hE hN
    go_enter Tryz.func65, Tryz.ntmps65
    go_wp2_with fail
    refine CR.out.mono ?_
    rintro e w' ⟨rfl, hb⟩
    have HB := hid hb
    clear hb
    go_wp2
    go_ret2
    exact ⟨rfl, HB.out⟩
set_option maxHeartbeats 4000000 in
set_option maxRecDepth 100000 in
theorem readFew_any (s : ByteArray) (hs : s.size < 4294967281) (w : World) (hE : S3.Env w) : Calls Tryz.prog 90 #[.string s] w (S3.ListOut (fewM (lst s)) w) := by
  have cL := hid (S3.list_any s hs w hE)
  unfold S3.ListOut fewM
  have cL' := cL.out
  unfold S3.ListOut at cL'
  rw [show S3.lst s = lst s from rfl] at cL'
  obtain ⟨⟨l, e0⟩, hR⟩ : ∃ R, S3.listM (lst s) = R := ⟨_, rfl⟩
  rw [hR] at cL' ⊢
  dsimp only at cL' ⊢
  have CL := hid cL'
  clear cL cL' hR hE
  by_cases h0 : e0 = 0
  · subst h0
    rw [if_neg (by simp)]
    by_cases h8 : 8 < l.length
    · rw [if_pos h8]
      have h8z : (8 : Int) < (l.length : Int) := by omega
      go_enter Tryz.func90, Tryz.ntmps90
      go_wp2_with fail
      refine CL.out.mono ?_
      rintro e w1 ⟨⟨v, rfl, hrow⟩, hb⟩
      obtain ⟨A, c, rfl, _⟩ := hrow.strsIn
      have HB := hid hb
      clear hb hrow
      go_wp2
      go_ret2
      exact ⟨⟨_, rfl, World.ownsRow_nil _ _ _ _⟩, HB.out⟩
    · rw [if_neg h8]
      have h8z : ¬ (8 : Int) < (l.length : Int) := by omega
      go_enter Tryz.func90, Tryz.ntmps90
      go_wp2_with fail
      refine CL.out.mono ?_
      rintro e w1 ⟨⟨v, rfl, hrow⟩, hb⟩
      have HRow := hid hrow
      obtain ⟨A, c, rfl, _⟩ := hrow.strsIn
      have HB := hid hb
      clear hb hrow
      go_wp2
      go_ret2
      exact ⟨⟨_, rfl, HRow.out⟩, HB.out⟩
  · rw [if_pos h0]
    have e1 : (e0 != 0) = true := by simpa using h0
    have e2 : (e0 == 0) = false := by simpa using h0
    go_enter Tryz.func90, Tryz.ntmps90
    go_wp2_with fail
    refine CL.out.mono ?_
    rintro e w1 ⟨⟨v, rfl, hrow⟩, hb⟩
    have HB := hid hb
    clear hb hrow
    go_wp2
    go_ret2
    exact ⟨⟨_, rfl, World.ownsRow_nil _ _ _ _⟩, HB.out⟩
theorem contains_any (A : Option Addr) (l : List Str) (c : Nat) (x : ByteArray) (P : Nat → Prop) (w : World) (h : S3.StrsIn w P A l) (hn : l.length ≤ 9223372036854775807) :
    Calls Tryz.prog 91 #[.slice A l.length c, .string x] w fun e w' => e = .returned (.bool (decide (lst x ∈ l))) ∧ w' = w := by
  rcases h with h | ⟨b, off, rfl, hb, hc⟩
  · subst h
    refine (Tryz.slices_Contains_string_empty A c x w).mono ?_
    rintro e w' ⟨rfl, rfl⟩
    exact ⟨by simp, rfl⟩
  · have hz : (l.map ba).length = l.length := by simp
    refine (Tryz.slices_Contains_string b off l.length c (l.map ba) x w (by rw [hz]; exact Nat.le_refl _) hn (fun j hj => ?_)).mono ?_
    · rw [hz] at hj
      have h1 := hc j _ (List.getElem?_eq_getElem hj)
      rw [h1]
      simp [S3.strV, List.getD, hj, ba]
    · rintro e w' ⟨rfl, rfl⟩
      refine ⟨?_, rfl⟩
      congr 2
      rw [List.take_of_length_le (by rw [hz]; exact Nat.le_refl _), Bool.eq_iff_iff, Lib.containsS_iff, decide_eq_true_eq]
      constructor
      · intro h
        obtain ⟨y, hy, e⟩ := List.mem_map.1 h
        have : lst x = y := by rw [← e, lst_ba]
        rw [this]
        exact hy
      · intro h
        exact List.mem_map.2 ⟨_, h, ba_lst x⟩
set_option maxHeartbeats 4000000 in
set_option maxRecDepth 100000 in
theorem readInstead_any (s x : ByteArray) (hs : s.size < 4294967281) (w : World) (hE : S3.Env w) : Calls Tryz.prog 66 #[.string s, .string x] w (S3.ListOut (insteadM (lst s) (lst x)) w) := by
  have cL := readFew_any s hs w hE
  unfold S3.ListOut insteadM
  unfold S3.ListOut at cL
  have h8 : (fewM (lst s)).1.length ≤ 8 := by
    unfold fewM
    split
    · simp
    · split
      · simp
      · dsimp only; omega
  obtain ⟨⟨l, e0⟩, hR⟩ : ∃ R, fewM (lst s) = R := ⟨_, rfl⟩
  rw [hR] at cL h8 ⊢
  dsimp only at cL h8 ⊢
  have cC := fun A c P w h => contains_any A l c x P w h (by omega)
  have CL := hid cL
  obtain ⟨D, hD⟩ : ∃ D, decide (lst x ∈ l) = D := ⟨_, rfl⟩
  rw [hD] at cC
  have CC := hid cC
  clear cL hR hE cC
  by_cases h0 : e0 = 0
  · subst h0
    rw [if_neg (by simp)]
    cases D with
    | true =>
      rw [if_pos (of_decide_eq_true hD)]
      clear hD
      go_enter Tryz.func66, Tryz.ntmps66
      go_wp2_with fail
      refine CL.out.mono ?_
      rintro e w1 ⟨⟨v, rfl, hrow⟩, hb⟩
      obtain ⟨A, c, rfl, _, _, hin⟩ := hrow.strsIn
      have HB := hid hb
      have HIN := hid hin
      clear hb hrow hin
      go_wp2_with fail
      refine (CC.out A c _ _ HIN.out).mono ?_
      rintro e w2 ⟨rfl, rfl⟩
      go_wp2
      go_ret2
      exact ⟨⟨_, rfl, World.ownsRow_nil _ _ _ _⟩, HB.out⟩
    | false =>
      rw [if_neg (of_decide_eq_false hD)]
      clear hD
      go_enter Tryz.func66, Tryz.ntmps66
      go_wp2_with fail
      refine CL.out.mono ?_
      rintro e w1 ⟨⟨v, rfl, hrow⟩, hb⟩
      have HRow := hid hrow
      obtain ⟨A, c, rfl, _, _, hin⟩ := hrow.strsIn
      have HB := hid hb
      have HIN := hid hin
      clear hb hrow hin
      go_wp2_with fail
      refine (CC.out A c _ _ HIN.out).mono ?_
      rintro e w2 ⟨rfl, rfl⟩
      go_wp2
      go_ret2
      exact ⟨⟨_, rfl, HRow.out⟩, HB.out⟩
  · rw [if_pos h0]
    have e1 : (e0 != 0) = true := by simpa using h0
    have e2 : (e0 == 0) = false := by simpa using h0
    go_enter Tryz.func66, Tryz.ntmps66
    go_wp2_with fail
    refine CL.out.mono ?_
    rintro e w1 ⟨⟨v, rfl, hrow⟩, hb⟩
    have HB := hid hb
    clear hb hrow
    go_wp2
    go_ret2
    exact ⟨⟨_, rfl, World.ownsRow_nil _ _ _ _⟩, HB.out⟩
set_option maxHeartbeats 2000000 in
theorem qcode_any (s : ByteArray) (w : World) : Calls Tryz.prog 64 #[.string s] w fun e w' => e = .returned (.tuple #[.string (if S3.validC (lst s) = true then s else ⟨#[]⟩), .int .i64 (if S3.validC (lst s) = true then 0 else 10)]) ∧ w' = w := by
  have cV := fun w => S3.valid_any s w
  cases hv : S3.validC (lst s) with
  | false =>
    rw [show s.data.toList = lst s from rfl, hv] at cV
    rw [if_neg (by simp), if_neg (by simp)]
    clear hv
    go_enter Tryz.func64, Tryz.ntmps64
    go_wp2_with fail
    refine (cV _).mono ?_
    rintro e w' ⟨rfl, rfl⟩
    go_wp2
    go_ret2
    exact ⟨rfl, rfl⟩
  | true =>
    rw [show s.data.toList = lst s from rfl, hv] at cV
    rw [if_pos rfl, if_pos rfl]
    clear hv
    go_enter Tryz.func64, Tryz.ntmps64
    go_wp2_with fail
    refine (cV _).mono ?_
    rintro e w' ⟨rfl, rfl⟩
    go_wp2
    go_ret2
    exact ⟨rfl, rfl⟩
section
variable (x : Str) (r : ReqD) (q : ReqA) (R : Nat) (W : World)
  (hX : Box4 W R (.string (ba r.s)) (.string (ba r.c)) (.int .i64 r.p) (.slice q.1 r.l.length q.2)) (hR : ReqIn W (fun k => R < k ∧ k < W.heap.size) r q)
include hX hR
set_option maxHeartbeats 8000000 in
set_option maxRecDepth 100000 in
theorem readField0 : Calls Tryz.prog 39 #[.pointer (some ⟨R, 0, none⟩), .int .i64 0, .string (ba x)] W (FieldOut 0 x r R W) := by
  unfold FieldOut
  have cC := fun W => qcode_any (ba x) W
  rw [lst_ba] at cC
  obtain ⟨u, hu⟩ : ∃ u : Str, (if S3.validC x = true then x else []) = u := ⟨_, rfl⟩
  have hub : (if S3.validC x = true then ba x else ⟨#[]⟩) = ba u := by rw [← hu]; split <;> rfl
  obtain ⟨e0, he0⟩ : ∃ e0 : Int, (if S3.validC x = true then (0 : Int) else 10) = e0 := ⟨_, rfl⟩
  have hS : setF 0 x r = ({ r with s := u }, e0) := by rw [← hu, ← he0]; simp only [setF]; split <;> rfl
  rw [hub, he0] at cC
  rw [hS]
  obtain ⟨z, hz⟩ : ∃ z, ba x = z := ⟨_, rfl⟩
  rw [hz] at cC ⊢
  clear hub hu he0 hS
  have CC := hid cC
  clear cC
  have HX := hid hX
  have HR := hid hR
  have hlt := hX.lt
  clear hX hR
  go_enter Tryz.func39, Tryz.ntmps39
  go_wp2_with fail
  refine (CC.out _).mono ?_
  rintro e w2 ⟨rfl, rfl⟩
  obtain ⟨y0, y1, y2, y3⟩ := HX.out.cells
  have hf := HX.out.free 0
  go_wp2
  go_ret
  have k := ReqIn.past (j := 0) (v := .string (ba u)) HR.out (Below.refl _ _)
  exact ⟨rfl, ⟨q, (Box4.put0 HX.out _), ⟨k.t, k.t1, k.t2⟩⟩, put_grown (Below.refl _ _) R 0 _⟩
set_option maxHeartbeats 8000000 in
set_option maxRecDepth 100000 in
theorem readField1 : Calls Tryz.prog 39 #[.pointer (some ⟨R, 0, none⟩), .int .i64 1, .string (ba x)] W (FieldOut 1 x r R W) := by
  unfold FieldOut
  have cC := fun W => qcode_any (ba x) W
  rw [lst_ba] at cC
  obtain ⟨u, hu⟩ : ∃ u : Str, (if S3.validC x = true then x else []) = u := ⟨_, rfl⟩
  have hub : (if S3.validC x = true then ba x else ⟨#[]⟩) = ba u := by rw [← hu]; split <;> rfl
  obtain ⟨e0, he0⟩ : ∃ e0 : Int, (if S3.validC x = true then (0 : Int) else 10) = e0 := ⟨_, rfl⟩
  have hS : setF 1 x r = ({ r with c := u }, e0) := by rw [← hu, ← he0]; simp only [setF]; split <;> rfl
  rw [hub, he0] at cC
  rw [hS]
  obtain ⟨z, hz⟩ : ∃ z, ba x = z := ⟨_, rfl⟩
  rw [hz] at cC ⊢
  clear hub hu he0 hS
  have CC := hid cC
  clear cC
  have HX := hid hX
  have HR := hid hR
  have hlt := hX.lt
  clear hX hR
  go_enter Tryz.func39, Tryz.ntmps39
  go_wp2_with fail
  refine (CC.out _).mono ?_
  rintro e w2 ⟨rfl, rfl⟩
  obtain ⟨y0, y1, y2, y3⟩ := HX.out.cells
  have hf := HX.out.free 1
  go_wp2
  go_ret
  have k := ReqIn.past (j := 1) (v := .string (ba u)) HR.out (Below.refl _ _)
  exact ⟨rfl, ⟨q, (Box4.put1 HX.out _), ⟨k.t, k.t1, k.t2⟩⟩, put_grown (Below.refl _ _) R 1 _⟩
set_option maxHeartbeats 8000000 in
set_option maxRecDepth 100000 in
theorem readField2 (hE : S3.Env W) (hx : x.length < 4294967281) : Calls Tryz.prog 39 #[.pointer (some ⟨R, 0, none⟩), .int .i64 2, .string (ba x)] W (FieldOut 2 x r R W) := by
  unfold FieldOut
  have cC := fun W h => (lst_ba x) ▸ readPriority_any (ba x) (by rw [Lib.size_eq]; show x.length ≤ _; omega) W h
  obtain ⟨⟨u, e0⟩, hu⟩ : ∃ p, priM x = p := ⟨_, rfl⟩
  have hS : setF 2 x r = ({ r with p := u }, e0) := by simp only [setF, hu]
  rw [hu] at cC
  rw [hS]
  obtain ⟨z, hz⟩ : ∃ z, ba x = z := ⟨_, rfl⟩
  rw [hz] at cC ⊢
  have CC := hid cC
  clear cC hS
  have HX := hid hX
  have HR := hid hR
  have hlt := hX.lt
  clear hX hR
  go_enter Tryz.func39, Tryz.ntmps39
  go_wp2_with fail
  refine (CC.out _ hE).mono ?_
  rintro e w2 ⟨rfl, hb2⟩
  have HB2 := hid hb2
  have HX2 := hid (HX.out.below hb2 hlt)
  clear hb2
  obtain ⟨y0, y1, y2, y3⟩ := HX2.out.cells
  have hf := HX2.out.free 2
  go_wp2
  go_ret
  have k := ReqIn.past (j := 2) (v := .int .i64 u) HR.out HB2.out
  exact ⟨rfl, ⟨q, (Box4.put2 HX2.out _), ⟨k.t, k.t1, k.t2⟩⟩, put_grown HB2.out R 2 _⟩
set_option maxHeartbeats 8000000 in
set_option maxRecDepth 100000 in
theorem readField3 (hE : S3.Env W) (hx : x.length < 4294967281) : Calls Tryz.prog 39 #[.pointer (some ⟨R, 0, none⟩), .int .i64 3, .string (ba x)] W (FieldOut 3 x r R W) := by
  unfold FieldOut
  have cC := fun W h => readInstead_any (ba x) (ba r.c) (by rw [Lib.size_eq]; exact hx) W h
  rw [lst_ba, lst_ba] at cC
  obtain ⟨⟨u, e0⟩, hu⟩ : ∃ p, insteadM x r.c = p := ⟨_, rfl⟩
  have hS : setF 3 x r = ({ r with l := u }, e0) := by simp only [setF, hu]
  rw [hu] at cC
  rw [hS]
  obtain ⟨z, hz⟩ : ∃ z, ba x = z := ⟨_, rfl⟩
  rw [hz] at cC ⊢
  have CC := hid cC
  clear cC hS
  have HX := hid hX
  have HR := hid hR
  have hlt := hX.lt
  obtain ⟨z0, z1, z2, z3⟩ := hX.cells
  clear hX hR
  go_enter Tryz.func39, Tryz.ntmps39
  go_wp2_with fail
  refine (CC.out _ hE).mono ?_
  rintro e w2 ⟨⟨v, rfl, hrow⟩, hb2⟩
  have hrow' : S3.StrRow w2 W.heap.size v u := hrow
  obtain ⟨A, c, rfl, hc1, hc2, hin⟩ := hrow'.strsIn
  have HIN := hid hin
  have HB2 := hid hb2
  have HX2 := hid (HX.out.below hb2 hlt)
  clear hb2 hrow hin hrow' z0 z1 z2 z3
  obtain ⟨y0, y1, y2, y3⟩ := HX2.out.cells
  have hf := HX2.out.free 3
  go_wp2
  go_ret
  have hg := put_grown HB2.out R 3 (.slice A u.length c)
  have k := ReqIn.past (j := 3) (v := .slice A u.length c) HR.out HB2.out
  refine ⟨rfl, ⟨(A, c), (Box4.put3 HX2.out _), ⟨?_, hc1, hc2⟩⟩, hg⟩
  refine (HIN.out.kept (w' := w2.setCell ⟨R, 3, none⟩ (.slice A u.length c)) (fun b hb => ?_)).mono (fun b hb => ⟨by omega, ?_⟩)
  · exact Below.heap_setCell w2 ⟨R, 3, none⟩ _ b (fun e => by have : b = R := e; omega)
  · simpa [World.setCell] using hb.2
theorem readField_any (hE : S3.Env W) (hx : x.length < 4294967281) (i : Nat) (hi : i < 4) : Calls Tryz.prog 39 #[.pointer (some ⟨R, 0, none⟩), .int .i64 (i : Int), .string (ba x)] W (FieldOut i x r R W) := by
  match i, hi with
  | 0, _ => exact readField0 x r q R W hX hR
  | 1, _ => exact readField1 x r q R W hX hR
  | 2, _ => exact readField2 x r q R W hX hR hE hx
  | 3, _ => exact readField3 x r q R W hX hR hE hx
end
set_option maxHeartbeats 8000000 in
set_option maxRecDepth 100000 in
theorem readEntry_any (A : Option Addr) (fs : List FieldD) (c B : Nat) (w : World) (hB : B ≤ w.heap.size) (h : FieldsIn w (fun b => b < B) A fs) (hfc : fs.length ≤ c) (hc : c ≤ 9223372036854775807)
    (hF : ∀ (W : World) (R i : Nat) (x : Str) (r : ReqD) (q : ReqA), Below w.heap.size w W → w.heap.size ≤ R → i < 4 → (∃ f ∈ fs, f.1 = x) → Box4 W R (.string (ba r.s)) (.string (ba r.c)) (.int .i64 r.p) (.slice q.1 r.l.length q.2) → ReqIn W (fun k => R < k ∧ k < W.heap.size) r q →
      Calls Tryz.prog 39 #[.pointer (some ⟨R, 0, none⟩), .int .i64 (i : Int), .string (ba x)] W (FieldOut i x r R W)) :
    Calls Tryz.prog 63 #[.slice A fs.length c, .int .i64 4, .func (.func 39) #[] #[]] w (EntryOut (entryM fs) w) := by
  have eg : ∀ args w, (callFunc 39 args).run Tryz.prog w = .ok (.enter 39 args) w := enters_of Tryz.func39 (by kernel_rfl) rfl
  obtain ⟨O, hO⟩ : ∃ O, entryM fs = O := ⟨_, rfl⟩
  rw [hO]
  have hb0 := (Below.refl w.heap.size w).alloc (Nat.le_refl _) (.cells #[.string ⟨#[]⟩, .string ⟨#[]⟩, .int .i64 0, .slice none 0 0] 61)
  have hx0 := Box4.new w (.string ⟨#[]⟩) (.string ⟨#[]⟩) (.int .i64 0) (.slice none 0 0)
  have hr0 : ∀ W P, ReqIn W P zeroR (none, 0) := fun W P => ⟨.inl rfl, Nat.le_refl _, by decide⟩
  have HH := hid h
  have HF := hid hF
  have HR0 := hid hr0
  by_cases h5 : fs.length = 4
  · have hn5 : ((fs.length : Int) != 4) = false := by rw [h5]; rfl
    have hOe : Hid (efold fs 0 zeroR = O) := hid (by rw [← hO]; unfold entryM; rw [if_neg (by simp [h5])])
    have HB0 := hid hb0
    have HX0 := hid hx0
    clear h hF hr0 hO hb0 hx0
    go_enter Tryz.func63, Tryz.ntmps63
    go_wp2
    generalize w.alloc (.cells #[.string ⟨#[]⟩, .string ⟨#[]⟩, .int .i64 0, .slice none 0 0] 61) = wz at HB0 HX0 ⊢
    go_loopw [9, 10, 11, 19] (fun _ _ _ iv wr => ∃ (i : Nat) (r : ReqD) (q : ReqA), iv = .int .i64 (i : Int) ∧ i ≤ 4 ∧ Hid (efold (fs.drop i) i r = O) ∧ Hid (Box4 wr w.heap.size (.string (ba r.s)) (.string (ba r.c)) (.int .i64 r.p) (.slice q.1 r.l.length q.2)) ∧ Hid (ReqIn wr (fun k => w.heap.size < k ∧ k < wr.heap.size) r q) ∧ Hid (Below w.heap.size w wr)) (fun _ _ _ iv _ => 4 - (RowKit.intOf iv).toNat)
    case atStart => exact ⟨0, zeroR, (none, 0), rfl, by omega, hid hOe.out, hid HX0.out, hid (HR0.out _ _), hid HB0.out⟩
    case round =>
      obtain ⟨i, r, q, rfl, hi, hE, hX, hR, hBw⟩ := hrel
      by_cases hlt : i < 4
      · have hlt' : i < fs.length := by omega
        have hltz : (i : Int) < (fs.length : Int) := by omega
        have hst := efold_step fs i hlt' r
        rw [hE.out] at hst
        obtain ⟨fb, fo, rfl, hfb, hc0⟩ := HH.out.at_ hlt'
        have hmem : ∃ f ∈ fs, f.1 = fs[i].1 := ⟨_, List.getElem_mem hlt', rfl⟩
        obtain ⟨⟨fx, fcol, fq⟩, hfi⟩ : ∃ f, fs[i] = f := ⟨_, rfl⟩
        rw [hfi] at hst hc0 hmem
        dsimp only at hst hc0 hmem
        obtain ⟨y0, y1, y2⟩ := hc0
        have kc : ∀ o : Nat, wr.cell? ⟨fb, o, none⟩ = w.cell? ⟨fb, o, none⟩ := fun o => hBw.out.cell (p := ⟨fb, o, none⟩) (by show fb < w.heap.size; omega)
        rw [← kc] at y0 y1 y2
        have hxl := hX.out.lt
        have hw1 := (Below.refl wr.heap.size wr).alloc (Nat.le_refl _) (.cells #[.string (ba fx), .int .i64 fcol, .bool fq] 99)
        have e1 := heap_alloc_new wr (.cells #[.string (ba fx), .int .i64 fcol, .bool fq] 99)
        have hs1 : (wr.alloc (.cells #[.string (ba fx), .int .i64 fcol, .bool fq] 99)).heap.size = wr.heap.size + 1 := by simp
        have HW1 := hid hw1
        have HE1 := hid e1
        have HS1 := hid hs1
        have HST := hid hst
        obtain ⟨z, hz⟩ : ∃ z, ba fx = z := ⟨_, rfl⟩
        have HZ := hid hz
        rw [hz] at y0 HW1 HE1 HS1
        clear hst kc hfi hw1 e1 hs1 hz hE
        go_wp2_with fail
        generalize wr.alloc (.cells #[.string z, .int .i64 fcol, .bool fq] 99) = w1 at HW1 HE1 HS1 ⊢
        have hX1 := hX.out.below HW1.out hxl
        have hR1 : ReqIn w1 (fun k => w.heap.size < k ∧ k < w1.heap.size) r q := (hR.out.kept (fun k hk => HW1.out.block k hk.2)).mono (fun k hk => ⟨hk.1, by rw [HS1.out]; omega⟩)
        have hB1 := hBw.out.trans (HW1.out.mono hBw.out.size)
        have cF := HF.out w1 w.heap.size i fx r q hB1 (Nat.le_refl _) hlt hmem hX1 hR1
        rw [HZ.out] at cF
        have CF := hid cF
        clear cF hX1 hR1 hX hR hmem
        refine CF.out.mono ?_
        rintro e w2 ⟨rfl, ⟨q', hX2, hR2⟩, hg2⟩
        obtain ⟨⟨r', e2⟩, hse⟩ : ∃ S, setF i fx r = S := ⟨_, rfl⟩
        rw [hse] at hX2 hR2 HST ⊢
        dsimp only at hX2 hR2 HST ⊢
        have HX2 := hid hX2
        have HR2 := hid hR2
        have HG2 := hid hg2
        clear hX2 hR2 hg2
        have hlt1 : w.heap.size < w1.heap.size := by rw [HS1.out]; omega
        have hBend : Below w.heap.size w w2 := (hBw.out.trans (HW1.out.mono hBw.out.size)).grown HG2.out (by omega) (fun k e => by injection e; omega)
        have HBE := hid hBend
        clear hBend
        by_cases h2 : e2 = 0
        · subst h2
          have hst := HST.out
          simp only [ne_eq, not_true, if_false] at hst
          have HN := hid hst.symm
          clear hst
          go_wp2
          exact ⟨⟨i + 1, r', q', rfl, by omega, HN, HX2, HR2, HBE⟩, by simp [RowKit.intOf]; omega⟩
        · have hst := HST.out
          rw [if_pos h2] at hst
          have hfr : w2.heap[wr.heap.size]? = some (.cells #[.string z, .int .i64 fcol, .bool fq] 99 (0, 0)) := (HG2.out.block wr.heap.size (by rw [HS1.out]; omega) (fun e => by injection e; omega)).trans HE1.out
          have c1 : w2.cell? ⟨wr.heap.size, 1, none⟩ = some (.int .i64 fcol) := by rw [Lib.cell_of_heap hfr]; rfl
          obtain ⟨y0', y1', y2', y3'⟩ := HX2.out.cells
          have f0 := HX2.out.free 0
          have f1 := HX2.out.free 1
          have f2 := HX2.out.free 2
          have f3 := HX2.out.free 3
          have HST2 := hid hst
          clear hst hfr
          go_wp2
          go_region
          go_wp2
          obtain ⟨W5, h5⟩ : ∃ W5, W5 = (((w2.setCell ⟨w.heap.size, 0, none⟩ (.string (ba r'.s))).setCell ⟨w.heap.size, 1, none⟩ (.string (ba r'.c))).setCell ⟨w.heap.size, 2, none⟩ (.int .i64 r'.p)).setCell ⟨w.heap.size, 3, none⟩ (.slice q'.1 r'.l.length q'.2) := ⟨_, rfl⟩
          rw [← h5]
          obtain ⟨k1, k2, k3⟩ := four_put HX2.out HR2.out HBE.out h5
          clear h5
          have k1' : Box4 W5.drew w.heap.size _ _ _ _ := k1.kept rfl
          have k2' : ReqIn W5.drew (fun k => w.heap.size < k ∧ k < W5.drew.heap.size) r' q' := k2.kept (fun _ _ => rfl)
          refine entry_end (r := r') (q := q') ?_ ?_ ?_ ?_ k1' k2' k3.drew HST2.out
          all_goals rfl
      · have : i = 4 := by omega
        subst this
        have hdrop : fs.drop 4 = [] := List.drop_eq_nil_of_le (by omega)
        have hOf := hE.out
        rw [hdrop] at hOf
        obtain ⟨y0', y1', y2', y3'⟩ := hX.out.cells
        have f0 := hX.out.free 0
        have f1 := hX.out.free 1
        have f2 := hX.out.free 2
        have f3 := hX.out.free 3
        go_wp2
        obtain ⟨W5, h5⟩ : ∃ W5, W5 = (((wr.setCell ⟨w.heap.size, 0, none⟩ (.string (ba r.s))).setCell ⟨w.heap.size, 1, none⟩ (.string (ba r.c))).setCell ⟨w.heap.size, 2, none⟩ (.int .i64 r.p)).setCell ⟨w.heap.size, 3, none⟩ (.slice q.1 r.l.length q.2) := ⟨_, rfl⟩
        rw [← h5]
        obtain ⟨k1, k2, k3⟩ := four_put hX.out hR.out hBw.out h5
        clear h5
        refine entry_end (r := r) (q := q) ?_ ?_ ?_ ?_ k1 k2 k3 (by rw [← hOf]; rfl)
        all_goals rfl
  · have hn5 : ((fs.length : Int) != 4) = true := by simp; omega
    have hOf : O = (zeroR, 0, 9) := by rw [← hO]; unfold entryM; rw [if_pos h5]
    have hR0 : ReqIn (w.alloc (.cells #[.string ⟨#[]⟩, .string ⟨#[]⟩, .int .i64 0, .slice none 0 0] 61)) (fun k => w.heap.size < k ∧ k < (w.alloc (.cells #[.string ⟨#[]⟩, .string ⟨#[]⟩, .int .i64 0, .slice none 0 0] 61)).heap.size) zeroR (none, 0) := hr0 _ _
    have HB0 := hid hb0
    have HX0 := hid hx0
    have HR1 := hid hR0
    clear h hF hr0 hO hb0 hx0 hR0
    go_enter Tryz.func63, Tryz.ntmps63
    go_wp2
    refine entry_end (r := zeroR) (q := (none, 0)) ?_ ?_ ?_ ?_ HX0.out HR1.out HB0.out hOf
    all_goals rfl
theorem run_append_none (w : World) (base : Nat) (v : Value) (n c : Nat) (xs : List Value) (hown : w.ownsRow base 9 1 v n xs) :
    (Builtin.append_ #[40, 40] 40 #[v, .slice none 0 c]).run Tryz.prog w = .ok v w := by
  obtain ⟨i9, hi9, hz9, hsi9, hby9⟩ := info_parts S3.infoStr
  have ht := Tryz.underlying40
  rcases hown.2 with ⟨rfl, rfl⟩ | ⟨g, cap, cur, rfl, _, _, hnc, _⟩
  · simp [Builtin.append_, run_underlying ht, sizeOf, typeInfo, hi9, Builtin.lenOf, Builtin.firstCells]
  · simp [Builtin.append_, run_underlying ht, sizeOf, typeInfo, hi9, Builtin.lenOf, Builtin.firstCells, hnc, storeCells]
set_option maxRecDepth 100000 in
theorem append_strs (w : World) (B n : Nat) (v : Value) (xs : List Value) (A : Option Addr) (c : Nat) (l : List Str) (P : Nat → Prop) (hown : w.ownsRow B 9 1 v n xs) (hB : B ≤ w.heap.size) (hn : n + l.length ≤ 8796093022208) (h : S3.StrsIn w P A l) :
    ∃ v' w', (Builtin.append_ #[40, 40] 40 #[v, .slice A l.length c]).run Tryz.prog w = .ok v' w' ∧ w'.ownsRow B 9 1 v' (n + l.length) (xs ++ S3.strVals l) ∧ w.grownBy w' v.ownBlock ∧ (v'.ownBlock = v.ownBlock ∨ v'.ownBlock = some w.heap.size) := by
  obtain ⟨iI, hiI, hzI, hsI, hbI⟩ := info_parts S3.infoStr
  cases A with
  | none =>
    have hnil : l = [] := by
      rcases h with h | ⟨b, off, hA, _⟩
      · exact h
      · cases hA
    subst hnil
    exact ⟨v, w, run_append_none w B v n c xs hown, by simpa [S3.strVals] using hown, ⟨rfl, rfl, rfl, Nat.le_refl _, fun _ _ _ => rfl⟩, .inl rfl⟩
  | some ad =>
    have hc : ∀ (j : Nat) (u : Value), (S3.strVals l)[j]? = some u → w.cell? (ad.add j) = some u := by
      intro j u hj
      unfold S3.strVals at hj
      rw [List.getElem?_map] at hj
      obtain ⟨x, hx, rfl⟩ := Option.map_eq_some_iff.1 hj
      rcases h with h | ⟨b, off, hA, _, hc⟩
      · subst h; simp at hx
      · injection hA with hA
        subst hA
        rw [Go.WideShapes.add_plain]
        exact hc j x hx
    obtain ⟨v', w2, hrun, hown', hg, _, hat⟩ := run_append_own_at (P := Tryz.prog) (w := w) B 40 40 9 iI (.string ⟨#[]⟩) 1 16 Tryz.underlying40 hiI hzI hsI hbI rfl (by omega) v n xs hown ad l.length c (S3.strVals l) (by rw [S3.strVals_len, Nat.mul_one]) hc (fun u hu => by unfold S3.strVals at hu; obtain ⟨s, _, rfl⟩ := List.mem_map.1 hu; rfl) (by unfold maxLen; omega) (by omega) hB
    exact ⟨v', w2, hrun, hown', hg, hat⟩
set_option maxHeartbeats 4000000 in
set_option maxRecDepth 100000 in
theorem sgrow_any (n : Nat) (h0 : 0 < n) (hn : n ≤ 1000000) (w : World) :
    Calls Tryz.prog 103 #[.slice none 0 0, .int .i64 (n : Int)] w fun e w' => (∃ v, e = .returned v ∧ S3.StrRow w' w.heap.size v []) ∧ Below w.heap.size w w' := by
  obtain ⟨i0, hi0, hz0, hs0, hb0⟩ := info_parts S3.infoStr
  have h1 : ¬ ((n : Int) < 0) := by omega
  have h4 : (n : Int) > 0 := by omega
  have h5 : (0 : Int) < (n : Int) := by omega
  have hw1 : IntKind.i64.wrap (n : Int) = n := by rw [IntKind.wrap_i64]; omega
  have hrz : (Builtin.append_ #[40, 3] 40 #[.slice none 0 0, .int .i64 (n : Int)]).run Tryz.prog w =
      .ok (.slice (some ⟨w.heap.size, 0, none⟩) n (grownCap w n 0 9)) (w.drew.alloc (.cells ((#[] : Array Value) ++ Builtin.zeroCells (#[.string ⟨#[]⟩] : Array Value) n ++ Builtin.zeroCells (#[.string ⟨#[]⟩] : Array Value) (grownCap w n 0 9 - n)) 9)) := by
    have hold : (Builtin.firstCells i0.size 0 (.slice none 0 0)).run Tryz.prog w.drew = .ok (#[] : Array Value) w.drew := run_firstCells_none w.drew i0.size 0 0 0
    have h := Lib.run_append_grow_zeros w 40 3 40 9 i0 (.string ⟨#[]⟩) .i64 .i64 Tryz.underlying40 Tryz.underlying3 hi0 hz0 none 0 0 [] hold n h0 (by omega) (by omega) (by omega) (by rw [hb0]; omega) (by rw [hb0, Nat.zero_add]; exact growslice_fits (by omega) (by omega))
    rw [Nat.zero_add] at h
    exact h
  have hGn : n ≤ grownCap w n 0 9 := grownCap_ge w _ _ _
  have hGm := grownCap_le_maxLen w n 0 9 (by unfold maxLen; omega)
  obtain ⟨G, hG⟩ : ∃ G, G = grownCap w n 0 9 := ⟨_, rfl⟩
  rw [← hG] at hrz hGn hGm
  have hG63 : G ≤ 9223372036854775807 := by unfold maxLen at hGm; omega
  obtain ⟨cs, hcs⟩ : ∃ cs, (#[] : Array Value) ++ Builtin.zeroCells (#[.string ⟨#[]⟩] : Array Value) n ++ Builtin.zeroCells (#[.string ⟨#[]⟩] : Array Value) (G - n) = cs := ⟨_, rfl⟩
  have hsz : cs.size = G * 1 := by
    rw [← hcs]
    simp [Builtin.zeroCells]
    omega
  rw [hcs] at hrz
  have HGM := hid hGm
  have HSZ := hid hsz
  clear hG hcs hGm hsz hb0 hs0 hz0 hi0
  go_enter Tryz.func103, Tryz.ntmps103
  go_wp2_with (at_builtin; refine Lib.wpList_append_run _ rfl _ _ _ _ rfl _ _ rfl rfl _ _ hrz ?_)
  go_ret
  refine ⟨⟨_, rfl, ?_⟩, (Below.refl _ w).drew.alloc (Nat.le_refl _) _⟩
  exact ⟨rfl, .inr ⟨w.heap.size, G, cs, rfl, Nat.le_refl _, heap_alloc_new w.drew _, Nat.zero_le _, HGM.out, HSZ.out, rfl⟩⟩
set_option maxHeartbeats 8000000 in
set_option maxRecDepth 100000 in
theorem concat_any (b b1 c1 : Nat) (s : Str) (A : Option Addr) (l : List Str) (c : Nat) (cc : Nat) (w : World) (hb : w.cell? ⟨b, 0, none⟩ = some (.slice (some ⟨b1, 0, none⟩) 1 c1)) (hb' : w.cell? ⟨b, 1, none⟩ = some (.slice A l.length c))
    (h1 : S3.StrsIn w (fun k => k < w.heap.size) (some ⟨b1, 0, none⟩) [s]) (h2 : S3.StrsIn w (fun k => k < w.heap.size) A l) (hn : l.length ≤ 999999) (hbl : b < w.heap.size) :
    Calls Tryz.prog 74 #[.slice (some ⟨b, 0, none⟩) 2 cc] w fun e w' => (∃ v, e = .returned v ∧ S3.StrRow w' w.heap.size v (s :: l)) ∧ Below w.heap.size w w' := by
  have cG := sgrow_any (1 + l.length) (by omega) (by omega) w
  have w1 : IntKind.i64.wrap ((1 : Int) + (l.length : Int)) = (1 : Int) + (l.length : Int) := by rw [IntKind.wrap_i64]; omega
  have w1' : ¬ ((1 : Int) + (l.length : Int) < 0) := by omega
  rw [show ((1 + l.length : Nat) : Int) = (1 : Int) + (l.length : Int) by omega] at cG
  have H1 := hid h1
  have H2 := hid h2
  obtain ⟨m, hm⟩ : ∃ m, l.length = m := ⟨_, rfl⟩
  have HM := hid hm
  rw [hm] at hb' w1 w1' cG
  have CG := hid cG
  have HB0 := hid hb
  have HB1 := hid hb'
  clear h1 h2 cG hm
  go_enter Tryz.func74, Tryz.ntmps74
  go_wp2_with fail
  refine wp_loop_rounds 3 ?_
  rw [rounds_succ]
  go_wp2_with fail
  rw [rounds_succ]
  go_wp2_with fail
  rw [rounds_succ]
  go_wp2_with fail
  refine CG.out.mono ?_
  rintro e w2 ⟨⟨v, rfl, hrow⟩, hb2⟩
  have b0 := (hb2.cell (p := ⟨b, 0, none⟩) hbl).trans HB0.out
  have b1' := (hb2.cell (p := ⟨b, 1, none⟩) hbl).trans HB1.out
  obtain ⟨v3, w3, hr3, ho3, hg3, hat3⟩ := append_strs w2 w.heap.size 0 v [] (some ⟨b1, 0, none⟩) c1 [s] _ hrow hb2.size (by simp) (H1.out.below hb2)
  have hv2 : ∀ k, v.ownBlock = some k → w.heap.size ≤ k := fun k e => (World.ownsRow.lt hrow k e).1
  have hb3 : Below w.heap.size w w3 := hb2.grown hg3 hb2.size hv2
  obtain ⟨v4, w4, hr4, ho4, hg4, hat4⟩ := append_strs w3 w.heap.size 1 v3 (S3.strVals [s]) A c l _ ho3 hb3.size (by have := HM.out; omega) (H2.out.below hb3)
  have hb4 : Below w.heap.size w w4 := hb3.grown hg4 hb3.size (fun k e => (World.ownsRow.lt ho3 k e).1)
  have b3' := (hb3.cell (p := ⟨b, 1, none⟩) hbl).trans HB1.out
  rw [HM.out] at hr4
  have HO4 := hid ho4
  have HB4 := hid hb4
  clear hrow hb2 ho3 hg3 hat3 hv2 hb3 ho4 hg4 hat4 hb4
  go_wp2_with fail
  refine wp_loop_rounds 3 ?_
  rw [rounds_succ]
  go_wp2_with (at_builtin; refine Lib.wpList_append_run _ rfl _ _ _ _ rfl _ _ rfl rfl _ _ hr3 ?_)
  rw [rounds_succ]
  go_wp2_with (at_builtin; refine Lib.wpList_append_run _ rfl _ _ _ _ rfl _ _ rfl rfl _ _ hr4 ?_)
  rw [rounds_succ]
  go_wp2_with fail
  go_ret
  refine ⟨⟨_, rfl, ?_⟩, HB4.out⟩
  have h := HO4.out
  unfold S3.StrRow
  rw [List.length_cons, Nat.add_comm]
  exact h
set_option maxHeartbeats 16000000 in
set_option maxRecDepth 100000 in
theorem qcheck_any (x : ReqD) (q : ReqA) (w : World) (h : ReqIn w (fun b => b < w.heap.size) x q) (hE : S3.Env w) :
    Calls Tryz.prog 43 #[reqV x q] w (Says (.int .i64 (reqM x)) w) := by
  obtain ⟨st, co, p, l⟩ := x
  obtain ⟨A, c⟩ := q
  obtain ⟨ht, ht1, ht2⟩ := h
  dsimp only at ht ht1 ht2
  unfold reqV Says
  dsimp only
  have hx0 := Box4.new w (.string (ba st)) (.string (ba co)) (.int .i64 p) (.slice A l.length c)
  have hb0 := (Below.refl w.heap.size w).alloc (Nat.le_refl _) (.cells #[.string (ba st), .string (ba co), .int .i64 p, .slice A l.length c] 61)
  have cV1 := fun w => S3.valid_any (ba st) w
  have cV2 := fun w => S3.valid_any (ba co) w
  have hlst : S3.strV co = .string (ba co) := rfl
  obtain ⟨R, hR⟩ : ∃ R, reqM ⟨st, co, p, l⟩ = R := ⟨_, rfl⟩
  rw [hR]
  rw [show (ba st).data.toList = st from rfl] at cV1
  rw [show (ba co).data.toList = co from rfl] at cV2
  unfold reqM at hR
  dsimp only at hR
  obtain ⟨V1, hV1⟩ : ∃ V, S3.validC st = V := ⟨_, rfl⟩
  obtain ⟨V2, hV2⟩ : ∃ V, S3.validC co = V := ⟨_, rfl⟩
  rw [hV1] at cV1 hR
  rw [hV2] at cV2 hR
  have cC : ∀ (w' : World) (b b1 cc c1 : Nat), Below w.heap.size w w' → w'.cell? ⟨b, 0, none⟩ = some (.slice (some ⟨b1, 0, none⟩) 1 c1) → w'.cell? ⟨b, 1, none⟩ = some (.slice A l.length c) → w'.cell? ⟨b1, 0, none⟩ = some (.string (ba co)) → b < w'.heap.size → b1 < w'.heap.size → l.length ≤ 8 →
      Calls Tryz.prog 74 #[.slice (some ⟨b, 0, none⟩) 2 cc] w' fun e w2 => (∃ A2 c2, e = .returned (.slice A2 (l.length + 1) c2) ∧ (Calls Tryz.prog 73 #[.slice A2 (l.length + 1) c2] w2 fun e3 w3 => (∃ v, e3 = .returned (.tuple #[v, .int .i64 (S3.checkM (co :: l))])) ∧ Below w2.heap.size w2 w3)) ∧ Below w'.heap.size w' w2 := by
    intro w' b b1 cc c1 hb h0 h1 h2 hbl hb1l hl8
    refine (concat_any b b1 c1 co A l c cc w' h0 h1 (.inr ⟨b1, 0, rfl, hb1l, fun j s hj => ?_⟩) ((ht.below hb).mono (fun k hk => Nat.lt_of_lt_of_le hk hb.size)) (by omega) hbl).mono ?_
    · match j, hj with
      | 0, hj => simp at hj; subst hj; exact h2
      | j + 1, hj => simp at hj
    · rintro e w2 ⟨⟨v, rfl, hrow⟩, hb2⟩
      obtain ⟨A2, c2, rfl, g1, g2, g3⟩ := hrow.strsIn
      refine ⟨⟨A2, c2, rfl, ?_⟩, hb2⟩
      have hJ := S3.cjoin_any A2 (co :: l) c2 w2 (g3.mono (fun k hk => hk.2)) g1 g2 (hE.below (hb.trans (hb2.mono hb.size)))
      refine hJ.mono ?_
      rintro e3 w3 ⟨rfl, hb3⟩
      exact ⟨⟨_, rfl⟩, hb3⟩
  obtain ⟨X1, hX1⟩ : ∃ X, ba st = X := ⟨_, rfl⟩
  obtain ⟨X2, hX2⟩ : ∃ X, ba co = X := ⟨_, rfl⟩
  rw [hX1] at hx0 hb0 cV1 ⊢
  rw [hX2] at hx0 hb0 cV2 cC ⊢
  obtain ⟨CK, hCK⟩ : ∃ T, S3.checkM (co :: l) = T := ⟨_, rfl⟩
  rw [hCK] at hR cC
  obtain ⟨n, hn⟩ : ∃ F, l.length = F := ⟨_, rfl⟩
  rw [hn] at hx0 hb0 hR cC ⊢
  have CC := hid cC
  have HX0 := hid hx0
  have HB0 := hid hb0
  clear ht cC hlst hV1 hV2 hX1 hX2 ht1 hn hCK hE hx0 hb0
  cases V1 with
  | false =>
    obtain rfl : R = 10 := by rw [← hR]; simp
    clear hR
    go_enter Tryz.func43, Tryz.ntmps43
    go_wp2_with fail
    generalize World.alloc _ _ = wx at HX0 HB0 ⊢
    obtain ⟨x0, x1, x2, x3⟩ := HX0.out.cells
    refine (cV1 _).mono ?_
    rintro e w' ⟨rfl, rfl⟩
    go_wp2
    go_ret
    exact ⟨rfl, HB0.out⟩
  | true =>
  rw [if_neg (by simp)] at hR
  cases V2 with
  | false =>
    obtain rfl : R = 10 := by rw [← hR]; simp
    clear hR
    go_enter Tryz.func43, Tryz.ntmps43
    go_wp2_with fail
    generalize World.alloc _ _ = wx at HX0 HB0 ⊢
    obtain ⟨x0, x1, x2, x3⟩ := HX0.out.cells
    refine (cV1 _).mono ?_
    rintro e w' ⟨rfl, rfl⟩
    go_wp2_with fail
    refine (cV2 _).mono ?_
    rintro e w' ⟨rfl, rfl⟩
    go_wp2
    go_ret
    exact ⟨rfl, HB0.out⟩
  | true =>
  rw [if_neg (by simp)] at hR
  go_enter Tryz.func43, Tryz.ntmps43
  go_wp2_with fail
  generalize World.alloc _ _ = wx at HX0 HB0 ⊢
  obtain ⟨x0, x1, x2, x3⟩ := HX0.out.cells
  refine (cV1 _).mono ?_
  rintro e w' ⟨rfl, rfl⟩
  go_wp2_with fail
  refine (cV2 _).mono ?_
  rintro e w' ⟨rfl, rfl⟩
  clear cV1 cV2
  by_cases z1 : p < 1
  · rw [if_pos z1] at hR
    subst hR
    have z1d : decide (p < 1) = true := decide_eq_true z1
    go_wp2
    go_ret
    exact ⟨rfl, HB0.out⟩
  have z1d : decide (p < 1) = false := decide_eq_false z1
  rw [if_neg z1] at hR
  by_cases z2 : 9 < p
  · rw [if_pos z2] at hR
    subst hR
    have z2d : decide (9 < p) = true := decide_eq_true z2
    go_wp2
    go_ret
    exact ⟨rfl, HB0.out⟩
  have z2d : decide (9 < p) = false := decide_eq_false z2
  rw [if_neg z2] at hR
  by_cases z3 : 8 < n
  · rw [if_pos z3] at hR
    subst hR
    have z3' : (8 : Int) < (n : Int) := by omega
    have z3d : decide ((8 : Int) < (n : Int)) = true := decide_eq_true z3'
    clear z3
    go_wp2
    go_ret
    exact ⟨rfl, HB0.out⟩
  have z3' : ¬ (8 : Int) < (n : Int) := by omega
  have z3d : decide ((8 : Int) < (n : Int)) = false := decide_eq_false z3'
  rw [if_neg z3] at hR
  subst hR
  have HN8 : Hid (n ≤ 8) := hid (by omega)
  have lx := HX0.out.lt
  clear z3
  go_wp2_with fail
  have e1 := heap_alloc_new wx (.cells #[.string X2] 9)
  have b1 := HB0.out.alloc HB0.out.size (.cells #[.string X2] 9)
  have s1 : (wx.alloc (.cells #[.string X2] 9)).heap.size = wx.heap.size + 1 := by simp
  have hlw := HB0.out.size
  generalize wx.alloc (.cells #[.string X2] 9) = wy at e1 b1 s1 ⊢
  have e2 := heap_alloc_new wy (.cells #[.slice (some ⟨wx.heap.size, 0, none⟩) 1 1, .slice A n c] 40)
  have b2 := b1.alloc b1.size (.cells #[.slice (some ⟨wx.heap.size, 0, none⟩) 1 1, .slice A n c] 40)
  have s2 : (wy.alloc (.cells #[.slice (some ⟨wx.heap.size, 0, none⟩) 1 1, .slice A n c] 40)).heap.size = wx.heap.size + 1 + 1 := by simp [s1]
  have e1' : (wy.alloc (.cells #[.slice (some ⟨wx.heap.size, 0, none⟩) 1 1, .slice A n c] 40)).heap[wx.heap.size]? = some (.cells #[.string X2] 9 (0, 0)) := by
    rw [((Below.refl wy.heap.size wy).alloc (Nat.le_refl _) _).block wx.heap.size (by rw [s1]; exact Nat.lt_succ_self _)]
    exact e1
  rw [s1] at e2
  generalize wy.alloc (.cells #[.slice (some ⟨wx.heap.size, 0, none⟩) 1 1, .slice A n c] 40) = wz at e1' e2 b2 s2 ⊢
  refine (CC.out wz (wx.heap.size + 1) wx.heap.size 2 1 b2 (by rw [Lib.cell_of_heap e2]; rfl) (by rw [Lib.cell_of_heap e2]; rfl) (by rw [Lib.cell_of_heap e1']; rfl) (by rw [s2]; exact Nat.lt_succ_self _) (by rw [s2]; omega) HN8.out).mono ?_
  rintro e w2 ⟨⟨A2, c2, rfl, hJ⟩, hb2⟩
  have HB2 := hid (b2.trans (hb2.mono b2.size))
  have HJ := hid hJ
  clear hJ hb2 b2 b1 e1 e2 e1' s1 s2 hlw
  go_wp2_with fail
  refine HJ.out.mono ?_
  rintro e3 w3 ⟨⟨v, rfl⟩, hb3⟩
  have HB3 := hid (HB2.out.trans (hb3.mono HB2.out.size))
  clear hb3
  go_wp2
  go_ret
  exact ⟨rfl, HB3.out⟩
end Go.Proofs.YtlgmanbilaminaaGreatDoor.S12
