/-
  What holds while entries are read out of records. Conditions: as stated.
  An entry out of the fields of a record: readEntry, given what readField does with one field. Conditions: the fields lie in memory.
  Entries out of records: the program's Read of package entries, at rooms. Conditions: the records lie below the map's block; what the closure reads stands.
-/
import Derived.Test.YteckefolakjafaaGreatDoorBR23
import Derived.Test.YteckefolakjafaaGreatDoorBR27
import Derived.Test.YteckefolakjafaaGreatDoorBR33
import Derived.Test.YteckefolakjafaaGreatDoorBR35
set_option linter.unusedVariables false
namespace Go.Proofs.YteckefolakjafaaGreatDoor
open Go Go.Proofs Go.RowKit Go.Lib

structure EInv (M : Nat) (w : World) (rs : List RoomD) (ps : List ProbD) (cs : List Str) (v1 v2 : Value) (W : World) : Prop where
  row : ∃ Lr : List (RoomD × Room5), Lr.map (·.1) = rs ∧ W.ownsRow w.heap.size 46 5 v1 Lr.length (roomVals Lr) ∧ ∀ p ∈ Lr, RoomIn W (fun k => w.heap.size ≤ k ∧ k < W.heap.size ∧ some k ≠ v1.ownBlock ∧ some k ≠ v2.ownBlock) p.1 p.2
  probs : ProbsRow W w.heap.size v2 ps
  map : KSet W M cs
  below : Below M w W
theorem EInv.start {M : Nat} {w : World} (h : KSet w M []) : EInv M w [] [] [] (.slice none 0 0) (.slice none 0 0) w :=
  ⟨⟨[], rfl, World.ownsRow_nil _ _ _ _, fun p hp => by simp at hp⟩, World.ownsRow_nil _ _ _ _, h, Below.refl _ _⟩
theorem own_lt {W : World} {B e z n : Nat} {v : Value} {xs : List Value} (h : W.ownsRow B e z v n xs) : ∀ k, v.ownBlock = some k → B ≤ k ∧ k < W.heap.size := World.ownsRow.lt h
section
variable {M : Nat} {w W W' : World} {rs : List RoomD} {ps : List ProbD} {cs cs' : List Str} {v1 v2 : Value}
/-- A call in between, which turns nothing but the map at most. -/
theorem EInv.past (h : EInv M w rs ps cs v1 v2 W) (hM : M < w.heap.size) (hg : W.grownBy W' (some M)) (hk : KSet W' M cs') : EInv M w rs ps cs' v1 v2 W' := by
  obtain ⟨⟨Lr, hL, ho, hr⟩, hp, _, hb⟩ := h
  have hs := hg.size
  have hbs := hb.size
  have e1 : some M ≠ v1.ownBlock := fun e => by have := (own_lt ho M e.symm).1; omega
  have e2 : some M ≠ v2.ownBlock := fun e => by have := (own_lt hp M e.symm).1; omega
  refine ⟨⟨Lr, hL, World.ownsRow.kept ho hg (.inr fun e => e1 e.symm), fun p hp' => ?_⟩, World.ownsRow.kept hp hg (.inr fun e => e2 e.symm), hk, hb.grown hg (by omega) (fun k e => by injection e; omega)⟩
  exact ((hr p hp').kept (fun k hk => hg.block k hk.2.1 (fun e => by injection e; omega))).mono (fun k hk => ⟨hk.1, by omega, hk.2.2⟩)
theorem EInv.under (h : EInv M w rs ps cs v1 v2 W) (hM : M < w.heap.size) (hb : Below W.heap.size W W') : EInv M w rs ps cs v1 v2 W' :=
  h.past hM (grown_none ⟨hb.os, hb.tape, hb.output, hb.size, fun k hk _ => hb.block k hk⟩) (h.map.below hb)
theorem kinds_ne {B B' e e' z z' n n' : Nat} {v v' : Value} {xs xs' : List Value} (h : W.ownsRow B e z v n xs) (h' : W.ownsRow B' e' z' v' n' xs') (hne : e ≠ e') : v.ownBlock = none ∨ v.ownBlock ≠ v'.ownBlock := by
  cases hv : v.ownBlock with
  | none => exact .inl rfl
  | some g =>
    refine .inr fun e0 => ?_
    obtain ⟨c, hc⟩ := row_kindT h g hv
    obtain ⟨c', hc'⟩ := row_kindT h' g e0.symm
    rw [hc] at hc'
    injection hc' with h1
    injection h1 with _ h2
    exact hne h2
/-- One problem more. -/
theorem EInv.prob {v2' : Value} {p : ProbD} (h : EInv M w rs ps cs v1 v2 W) (hM : M < w.heap.size) (hown : ProbsRow W' w.heap.size v2' (ps ++ [p])) (hg : W.grownBy W' v2.ownBlock) (hat : v2'.ownBlock = v2.ownBlock ∨ ∃ k, v2'.ownBlock = some k ∧ W.heap.size ≤ k) : EInv M w rs (ps ++ [p]) cs v1 v2' W' := by
  obtain ⟨⟨Lr, hL, ho, hr⟩, hp, hk, hb⟩ := h
  have hs := hg.size
  have hbs := hb.size
  have e2 : some M ≠ v2.ownBlock := fun e => by have := (own_lt hp M e.symm).1; omega
  refine ⟨⟨Lr, hL, World.ownsRow.kept ho hg (kinds_ne ho hp (by decide)), fun p hp' => ?_⟩, hown, hk.kept hg e2, hb.grown hg (by omega) (fun k e => by have := (own_lt hp k e).1; omega)⟩
  refine ((hr p hp').kept (fun k hk => hg.block k hk.2.1 hk.2.2.2)).mono (fun k hk => ⟨hk.1, by omega, hk.2.2.1, ?_⟩)
  rcases hat with e | ⟨j, e, hj⟩
  · rw [e]; exact hk.2.2.2
  · rw [e]; intro e0; injection e0 with e0; have := hk.2.1; omega
/-- One room more. -/
theorem EInv.room {v1' : Value} {r : RoomD} {q : Room5} {C : Nat} (h : EInv M w rs ps cs v1 v2 W) (hM : M < w.heap.size)
    (hr' : RoomIn W (fun k => C ≤ k ∧ k < W.heap.size) r q) (hC : w.heap.size ≤ C) (h1 : ∀ k, v1.ownBlock = some k → k < C) (h2 : ∀ k, v2.ownBlock = some k → k < C)
    {Lr : List (RoomD × Room5)} (hL : Lr.map (·.1) = rs) (ho : W.ownsRow w.heap.size 46 5 v1 Lr.length (roomVals Lr)) (hr : ∀ p ∈ Lr, RoomIn W (fun k => w.heap.size ≤ k ∧ k < W.heap.size ∧ some k ≠ v1.ownBlock ∧ some k ≠ v2.ownBlock) p.1 p.2)
    (hown : W'.ownsRow w.heap.size 46 5 v1' (Lr.length + 1) (roomVals Lr ++ roomVs r q))
    (hg : W.grownBy W' v1.ownBlock) (hat : v1'.ownBlock = v1.ownBlock ∨ ∃ k, v1'.ownBlock = some k ∧ W.heap.size ≤ k) : EInv M w (rs ++ [r]) ps cs v1' v2 W' := by
  obtain ⟨_, hp, hk, hb⟩ := h
  have hs := hg.size
  have hbs := hb.size
  have e1 : some M ≠ v1.ownBlock := fun e => by have := (own_lt ho M e.symm).1; omega
  have hne : ∀ k, k < W.heap.size → some k ≠ v1.ownBlock → some k ≠ v1'.ownBlock := by
    intro k hk hne
    rcases hat with e | ⟨j, e, hj⟩
    · rw [e]; exact hne
    · rw [e]; intro e0; injection e0 with e0; omega
  refine ⟨⟨Lr ++ [(r, q)], by rw [List.map_append, hL]; rfl, ?_, fun p hp' => ?_⟩, World.ownsRow.kept hp hg (kinds_ne hp ho (by decide)), hk.kept hg e1, hb.grown hg (by omega) (fun k e => by have := (own_lt ho k e).1; omega)⟩
  · rw [roomVals_app, List.length_append, List.length_singleton]
    simpa [roomVals] using hown
  · rcases List.mem_append.1 hp' with hp' | hp'
    · exact ((hr p hp').kept (fun k hk => hg.block k hk.2.1 hk.2.2.1)).mono (fun k hk => ⟨hk.1, by omega, hne k hk.2.1 hk.2.2.1, hk.2.2.2⟩)
    · rw [List.mem_singleton] at hp'
      subst hp'
      have k1 : ∀ k, C ≤ k → some k ≠ v1.ownBlock := fun k hk e => by have := h1 k e.symm; omega
      have k2 : ∀ k, C ≤ k → some k ≠ v2.ownBlock := fun k hk e => by have := h2 k e.symm; omega
      exact (hr'.kept (fun k hk => hg.block k hk.2 (k1 k hk.1))).mono (fun k hk => ⟨by omega, by omega, hne k hk.2 (k1 k hk.1), k2 k hk.1⟩)
end
theorem setF_code (d s b m n : Int) (K : Nat) (hK : 0 < K) (i : Nat) (x : Str) (r : RoomD) (hx : x.length < K) (hr : r.1.length < K) : (setF d s b m n i x r).1.1.length < K := by
  match i with
  | 0 => simp only [setF]; split <;> simp_all
  | 1 => simp only [setF]; split <;> simp_all
  | 2 => exact hr
  | 3 => exact hr
  | 4 => exact hr
  | j + 5 => exact hr
theorem efold_code (d s b m n : Int) (K : Nat) (hK : 0 < K) : ∀ (fs : List FieldD) (i : Nat) (r : RoomD), (∀ f ∈ fs, f.1.length < K) → r.1.length < K → (efold d s b m n fs i r).1.1.length < K
  | [], _, r, _, hr => hr
  | f :: fs, i, r, h, hr => by
    unfold efold
    have h1 := setF_code d s b m n K hK i f.1 r (h f (by simp)) hr
    split
    · exact h1
    · exact efold_code d s b m n K hK fs (i + 1) _ (fun g hg => h g (by simp [hg])) h1
theorem entryM_code (d s b m n : Int) (K : Nat) (hK : 0 < K) (fs : List FieldD) (h : ∀ f ∈ fs, f.1.length < K) : (entryM d s b m n fs).1.1.length < K := by
  unfold entryM
  split
  · exact hK
  · exact efold_code d s b m n K hK fs 0 zeroR h hK
theorem five_new (w : World) (r : RoomD) (q : Room5) : ∀ (j : Nat) (u : Value), (roomVs r q)[j]? = some u → (w.alloc (.cells #[.string (ba r.1), .string (ba r.2.1), .int .i64 r.2.2.1, .slice q.a1 r.2.2.2.1.length q.c1, .slice q.a2 r.2.2.2.2.length q.c2] 46)).cell? ((⟨w.heap.size, 0, none⟩ : Addr).add j) = some u := by
  intro j u h
  obtain ⟨k0, k1, k2, k3, k4⟩ := (Box5.new w (.string (ba r.1)) (.string (ba r.2.1)) (.int .i64 r.2.2.1) (.slice q.a1 r.2.2.2.1.length q.c1) (.slice q.a2 r.2.2.2.2.length q.c2)).cells
  rw [Addr.add_lit]
  match j, h with
  | 0, h => exact k0.trans h
  | 1, h => exact k1.trans h
  | 2, h => exact k2.trans h
  | 3, h => exact k3.trans h
  | 4, h => exact k4.trans h
  | j + 5, h => simp [roomVs] at h
theorem room_one (r : RoomD) (q : Room5) : ∀ u ∈ roomVs r q, u.oneCell' = true := by
  intro u hu
  simp [roomVs] at hu
  rcases hu with rfl | rfl | rfl | rfl | rfl <;> rfl
/-- What reading entries leaves behind. -/
def EntsOut (M : Nat) (o : List RoomD × List ProbD) (w : World) (e : Ending) (w' : World) : Prop := ∃ v1 v2, e = .returned (.tuple #[v1, v2]) ∧ EInv M w o.1 o.2 (codesR o.1) v1 v2 w'
end Go.Proofs.YteckefolakjafaaGreatDoor

set_option linter.unusedVariables false
namespace Go.Proofs.YteckefolakjafaaGreatDoor
open Go Go.Proofs Go.RowKit Go.Lib

set_option maxHeartbeats 8000000 in
set_option maxRecDepth 100000 in
theorem readEntry_any (d s b m n : Int) (A : Option Addr) (fs : List FieldD) (c B : Nat) (G N : Nat) (w : World) (hB : B ≤ w.heap.size) (h : FieldsIn w (fun b => b < B) A fs) (hfc : fs.length ≤ c) (hc : c ≤ 9223372036854775807)
    (hF : ∀ (W : World) (R i : Nat) (x : Str) (r : RoomD) (q : Room5), Below w.heap.size w W → w.heap.size ≤ R → i < 5 → (∃ f ∈ fs, f.1 = x) → Box5 W R (.string (ba r.1)) (.string (ba r.2.1)) (.int .i64 r.2.2.1) (.slice q.a1 r.2.2.2.1.length q.c1) (.slice q.a2 r.2.2.2.2.length q.c2) → RoomIn W (fun k => R < k ∧ k < W.heap.size) r q →
      Calls Tryz.prog 29 (#[.pointer (some ⟨R, 0, none⟩), .int .i64 (i : Int), .string (ba x)] ++ #[.pointer (some ⟨G, 0, none⟩), .pointer (some ⟨N, 0, none⟩)]) W (FieldOut d s b m n i x r R W)) :
    Calls Tryz.prog 59 #[.slice A fs.length c, .int .i64 5, .func (.func 29) #[] #[.pointer (some ⟨G, 0, none⟩), .pointer (some ⟨N, 0, none⟩)]] w (EntryOut (entryM d s b m n fs) w) := by
  have eg : ∀ args w, (callFunc 29 args).run Tryz.prog w = .ok (.enter 29 args) w := enters_of Tryz.func29 (by kernel_rfl) rfl
  obtain ⟨O, hO⟩ : ∃ O, entryM d s b m n fs = O := ⟨_, rfl⟩
  rw [hO]
  have hb0 := (Below.refl w.heap.size w).alloc (Nat.le_refl _) (.cells #[.string ⟨#[]⟩, .string ⟨#[]⟩, .int .i64 0, .slice none 0 0, .slice none 0 0] 46)
  have hx0 := Box5.new w (.string ⟨#[]⟩) (.string ⟨#[]⟩) (.int .i64 0) (.slice none 0 0) (.slice none 0 0)
  have hr0 : ∀ W P, RoomIn W P zeroR ⟨none, 0, none, 0⟩ := fun W P => ⟨.inl rfl, TimesIn.nil _ _ _, Nat.le_refl _, by decide, Nat.le_refl _, by decide⟩
  have HH := hid h
  have HF := hid hF
  have HR0 := hid hr0
  by_cases h5 : fs.length = 5
  · have hn5 : ((fs.length : Int) != 5) = false := by rw [h5]; rfl
    have hOe : Hid (efold d s b m n fs 0 zeroR = O) := hid (by rw [← hO]; unfold entryM; rw [if_neg (by simp [h5])])
    have HB0 := hid hb0
    have HX0 := hid hx0
    clear h hF hr0 hO hb0 hx0
    go_enter Tryz.func59, Tryz.ntmps59
    go_wp2
    generalize w.alloc (.cells #[.string ⟨#[]⟩, .string ⟨#[]⟩, .int .i64 0, .slice none 0 0, .slice none 0 0] 46) = wz at HB0 HX0 ⊢
    go_loopw [9, 10, 11, 19] (fun _ _ _ iv wr => ∃ (i : Nat) (r : RoomD) (q : Room5), iv = .int .i64 (i : Int) ∧ i ≤ 5 ∧ Hid (efold d s b m n (fs.drop i) i r = O) ∧ Hid (Box5 wr w.heap.size (.string (ba r.1)) (.string (ba r.2.1)) (.int .i64 r.2.2.1) (.slice q.a1 r.2.2.2.1.length q.c1) (.slice q.a2 r.2.2.2.2.length q.c2)) ∧ Hid (RoomIn wr (fun k => w.heap.size < k ∧ k < wr.heap.size) r q) ∧ Hid (Below w.heap.size w wr)) (fun _ _ _ iv _ => 5 - (RowKit.intOf iv).toNat)
    case atStart => exact ⟨0, zeroR, ⟨none, 0, none, 0⟩, rfl, by omega, hid hOe.out, hid HX0.out, hid (HR0.out _ _), hid HB0.out⟩
    case round =>
      obtain ⟨i, r, q, rfl, hi, hE, hX, hR, hBw⟩ := hrel
      by_cases hlt : i < 5
      · have hlt' : i < fs.length := by omega
        have hltz : (i : Int) < (fs.length : Int) := by omega
        have hst := efold_step d s b m n fs i hlt' r
        rw [hE.out] at hst
        obtain ⟨fb, fo, rfl, hfb, hc0⟩ := HH.out.at_ hlt'
        have hmem : ∃ f ∈ fs, f.1 = fs[i].1 := ⟨_, List.getElem_mem hlt', rfl⟩
        obtain ⟨⟨fx, fcol, fq⟩, hfi⟩ : ∃ f, fs[i] = f := ⟨_, rfl⟩
        rw [hfi] at hst hc0 hmem
        dsimp only at hst hc0 hmem
        obtain ⟨y0, y1, y2⟩ := hc0
        have kc : ∀ o : Nat, wr.cell? ⟨fb, o, none⟩ = w.cell? ⟨fb, o, none⟩ := fun o => hBw.out.cell (p := ⟨fb, o, none⟩) (by show fb < w.heap.size; omega)
        rw [← kc] at y0 y1 y2
        have hxl := hX.out.lt
        have hw1 := (Below.refl wr.heap.size wr).alloc (Nat.le_refl _) (.cells #[.string (ba fx), .int .i64 fcol, .bool fq] 81)
        have e1 := heap_alloc_new wr (.cells #[.string (ba fx), .int .i64 fcol, .bool fq] 81)
        have hs1 : (wr.alloc (.cells #[.string (ba fx), .int .i64 fcol, .bool fq] 81)).heap.size = wr.heap.size + 1 := by simp
        have HW1 := hid hw1
        have HE1 := hid e1
        have HS1 := hid hs1
        have HST := hid hst
        obtain ⟨z, hz⟩ : ∃ z, ba fx = z := ⟨_, rfl⟩
        have HZ := hid hz
        rw [hz] at y0 HW1 HE1 HS1
        clear hst kc hfi hw1 e1 hs1 hz hE
        go_wp2_with fail
        generalize wr.alloc (.cells #[.string z, .int .i64 fcol, .bool fq] 81) = w1 at HW1 HE1 HS1 ⊢
        have hX1 := hX.out.below HW1.out hxl
        have hR1 : RoomIn w1 (fun k => w.heap.size < k ∧ k < w1.heap.size) r q := (hR.out.kept (fun k hk => HW1.out.block k hk.2)).mono (fun k hk => ⟨hk.1, by rw [HS1.out]; omega⟩)
        have hB1 := hBw.out.trans (HW1.out.mono hBw.out.size)
        have cF := HF.out w1 w.heap.size i fx r q hB1 (Nat.le_refl _) hlt hmem hX1 hR1
        rw [HZ.out] at cF
        have CF := hid cF
        clear cF hX1 hR1 hX hR hmem
        refine CF.out.mono ?_
        rintro e w2 ⟨rfl, ⟨q', hX2, hR2⟩, hg2⟩
        obtain ⟨⟨r', e2⟩, hse⟩ : ∃ S, setF d s b m n i fx r = S := ⟨_, rfl⟩
        rw [hse] at hX2 hR2 HST ⊢
        dsimp only at hX2 hR2 HST ⊢
        have HX2 := hid hX2
        have HR2 := hid hR2
        have HG2 := hid hg2
        clear hX2 hR2 hg2
        have hlt1 : w.heap.size < w1.heap.size := by rw [HS1.out]; omega
        have hBend : Below w.heap.size w w2 := (hBw.out.trans (HW1.out.mono hBw.out.size)).grown HG2.out (by omega) (fun k e => by injection e; omega)
        have HBE := hid hBend
        clear hBend
        by_cases h2 : e2 = 0
        · subst h2
          have hst := HST.out
          simp only [ne_eq, not_true, if_false] at hst
          have HN := hid hst.symm
          clear hst
          go_wp2
          exact ⟨⟨i + 1, r', q', rfl, by omega, HN, HX2, HR2, HBE⟩, by simp [RowKit.intOf]; omega⟩
        · have hst := HST.out
          rw [if_pos h2] at hst
          have hfr : w2.heap[wr.heap.size]? = some (.cells #[.string z, .int .i64 fcol, .bool fq] 81 (0, 0)) := (HG2.out.block wr.heap.size (by rw [HS1.out]; omega) (fun e => by injection e; omega)).trans HE1.out
          have c1 : w2.cell? ⟨wr.heap.size, 1, none⟩ = some (.int .i64 fcol) := by rw [Lib.cell_of_heap hfr]; rfl
          obtain ⟨y0', y1', y2', y3', y4'⟩ := HX2.out.cells
          have f0 := HX2.out.free 0
          have f1 := HX2.out.free 1
          have f2 := HX2.out.free 2
          have f3 := HX2.out.free 3
          have f4 := HX2.out.free 4
          have HST2 := hid hst
          clear hst hfr
          go_wp2
          go_region
          go_wp2
          obtain ⟨W5, h5⟩ : ∃ W5, W5 = ((((w2.setCell ⟨w.heap.size, 0, none⟩ (.string (ba r'.1))).setCell ⟨w.heap.size, 1, none⟩ (.string (ba r'.2.1))).setCell ⟨w.heap.size, 2, none⟩ (.int .i64 r'.2.2.1)).setCell ⟨w.heap.size, 3, none⟩ (.slice q'.a1 r'.2.2.2.1.length q'.c1)).setCell ⟨w.heap.size, 4, none⟩ (.slice q'.a2 r'.2.2.2.2.length q'.c2) := ⟨_, rfl⟩
          rw [← h5]
          obtain ⟨k1, k2, k3⟩ := five_put HX2.out HR2.out HBE.out h5
          clear h5
          have k1' : Box5 W5.drew w.heap.size _ _ _ _ _ := k1.kept rfl
          have k2' : RoomIn W5.drew (fun k => w.heap.size < k ∧ k < W5.drew.heap.size) r' q' := k2.kept (fun _ _ => rfl)
          refine entry_end (r := r') (q := q') ?_ ?_ ?_ ?_ k1' k2' k3.drew HST2.out
          all_goals rfl
      · have : i = 5 := by omega
        subst this
        have hdrop : fs.drop 5 = [] := List.drop_eq_nil_of_le (by omega)
        have hOf := hE.out
        rw [hdrop] at hOf
        obtain ⟨y0', y1', y2', y3', y4'⟩ := hX.out.cells
        have f0 := hX.out.free 0
        have f1 := hX.out.free 1
        have f2 := hX.out.free 2
        have f3 := hX.out.free 3
        have f4 := hX.out.free 4
        go_wp2
        obtain ⟨W5, h5⟩ : ∃ W5, W5 = ((((wr.setCell ⟨w.heap.size, 0, none⟩ (.string (ba r.1))).setCell ⟨w.heap.size, 1, none⟩ (.string (ba r.2.1))).setCell ⟨w.heap.size, 2, none⟩ (.int .i64 r.2.2.1)).setCell ⟨w.heap.size, 3, none⟩ (.slice q.a1 r.2.2.2.1.length q.c1)).setCell ⟨w.heap.size, 4, none⟩ (.slice q.a2 r.2.2.2.2.length q.c2) := ⟨_, rfl⟩
        rw [← h5]
        obtain ⟨k1, k2, k3⟩ := five_put hX.out hR.out hBw.out h5
        clear h5
        refine entry_end (r := r) (q := q) ?_ ?_ ?_ ?_ k1 k2 k3 (by rw [← hOf]; rfl)
        all_goals rfl
  · have hn5 : ((fs.length : Int) != 5) = true := by simp; omega
    have hOf : O = (zeroR, 0, 9) := by rw [← hO]; unfold entryM; rw [if_pos h5]
    have hR0 : RoomIn (w.alloc (.cells #[.string ⟨#[]⟩, .string ⟨#[]⟩, .int .i64 0, .slice none 0 0, .slice none 0 0] 46)) (fun k => w.heap.size < k ∧ k < (w.alloc (.cells #[.string ⟨#[]⟩, .string ⟨#[]⟩, .int .i64 0, .slice none 0 0, .slice none 0 0] 46)).heap.size) zeroR ⟨none, 0, none, 0⟩ := hr0 _ _
    have HB0 := hid hb0
    have HX0 := hid hx0
    have HR1 := hid hR0
    clear h hF hr0 hO hb0 hx0 hR0
    go_enter Tryz.func59, Tryz.ntmps59
    go_wp2
    refine entry_end (r := zeroR) (q := ⟨none, 0, none, 0⟩) ?_ ?_ ?_ ?_ HX0.out HR1.out HB0.out hOf
    all_goals rfl
end Go.Proofs.YteckefolakjafaaGreatDoor

set_option linter.unusedVariables false
namespace Go.Proofs.YteckefolakjafaaGreatDoor
open Go Go.Proofs Go.RowKit Go.Lib

set_option maxHeartbeats 16000000 in
set_option maxRecDepth 100000 in
theorem entries_any (d s b m n : Int) (A : Option Addr) (l : List RecD) (c M G N : Nat) (w : World) (hM : M < w.heap.size) (h : RecsIn w (fun k => k < M) A l) (hl : l.length ≤ 1073741824)
    (hsz : ∀ x ∈ l, ∀ f ∈ x.2, f.1.length < 4294967281) (hE : ∀ W, Below M w W → Env7 W ∧ Box4 W G d s b m ∧ W.cell? ⟨N, 0, none⟩ = some (.int .i64 n)) (hK : KSet w M []) :
    Calls Tryz.prog 31 #[.slice A l.length c, .int .i64 5, .func (.func 29) #[] #[.pointer (some ⟨G, 0, none⟩), .pointer (some ⟨N, 0, none⟩)], .func (.func 23) #[.map (some M)] #[]] w (EntsOut M (recsM d s b m n l) w) := by
  obtain ⟨i4, hi4, hz4, hs4, hb4⟩ := info_parts infoProb
  obtain ⟨i5, hi5, hz5, hs5, hb5⟩ := info_parts infoRoom
  have ea : ∀ args w, (callFunc 23 args).run Tryz.prog w = .ok (.enter 23 args) w := enters_of Tryz.func23 (by kernel_rfl) rfl
  have hI0 := EInv.start (M := M) hK
  have HH := hid h
  have HSZ := hid hsz
  have HE := hid hE
  have HI0 := hid hI0
  clear h hsz hE hK hI0
  unfold EntsOut
  go_enter Tryz.func31, Tryz.ntmps31
  go_wp2
  go_loopw [10, 11, 13, 19] (fun u1 u2 _ iv wr => ∃ (i : Nat) (A1 : Option Addr) (n1 c1 : Nat) (A2 : Option Addr) (n2 c2 : Nat), u1 = .slice A1 n1 c1 ∧ u2 = .slice A2 n2 c2 ∧ iv = .int .i64 (i : Int) ∧ i ≤ l.length ∧ Hid (EInv M w (recsM d s b m n (l.take i)).1 (recsM d s b m n (l.take i)).2 (codesR (recsM d s b m n (l.take i)).1) (.slice A1 n1 c1) (.slice A2 n2 c2) wr)) (fun _ _ _ iv _ => l.length - (RowKit.intOf iv).toNat)
  case atStart => exact ⟨0, _, _, _, _, _, _, rfl, rfl, rfl, Nat.zero_le _, hid HI0.out⟩
  case round =>
    obtain ⟨i, A1, n1, c1, A2, n2, c2, rfl, rfl, rfl, hi, hI⟩ := hrel
    have hMs : M < wr.heap.size := hI.out.map.lt
    obtain ⟨Lr0, hL0, ho0, hr0⟩ := hI.out.row
    have hlt1 : ∀ k, (Value.slice A1 n1 c1).ownBlock = some k → k < wr.heap.size := fun k e => (own_lt ho0 k e).2
    have hlt2 : ∀ k, (Value.slice A2 n2 c2).ownBlock = some k → k < wr.heap.size := fun k e => (own_lt hI.out.probs k e).2
    have HL1 := hid hlt1
    have HL2 := hid hlt2
    have HMS := hid hMs
    have hws := hI.out.below.size
    have HWS := hid hws
    clear hL0 ho0 hr0 hlt1 hlt2 hMs hws
    by_cases hlt : i < l.length
    · have hltz : (i : Int) < (l.length : Int) := by omega
      obtain ⟨fb, fo, A', c', rfl, hfb, hfi, hc1, hc2, y0, y1⟩ := HH.out.at_ hlt
      have kc : ∀ o : Nat, wr.cell? ⟨fb, o, none⟩ = w.cell? ⟨fb, o, none⟩ := fun o => hI.out.below.cell (p := ⟨fb, o, none⟩) hfb
      rw [← kc] at y0 y1
      have hst := recsM_take d s b m n l i hlt
      have hrl := recsM_len d s b m n (l.take i)
      have hpl := recsM_probs d s b m n (l.take i)
      rw [List.length_take] at hpl
      have hszi := HSZ.out _ (List.getElem_mem hlt)
      obtain ⟨⟨rs, ps⟩, hst0⟩ : ∃ S, recsM d s b m n (l.take i) = S := ⟨_, rfl⟩
      rw [hst0] at hst hrl hpl hI
      obtain ⟨⟨line, fs⟩, hx⟩ : ∃ X, l[i] = X := ⟨_, rfl⟩
      rw [hx] at hfi hc1 y0 y1 hst hszi
      dsimp only at hfi hc1 y0 y1 hst hszi hrl hpl hI
      obtain ⟨F, hF⟩ : ∃ F, fs.length = F := ⟨_, rfl⟩
      have hw1 := (Below.refl wr.heap.size wr).alloc (Nat.le_refl _) (.cells #[.int .i64 line, .slice A' F c'] 36)
      have e1 := heap_alloc_new wr (.cells #[.int .i64 line, .slice A' F c'] 36)
      have hs1 : (wr.alloc (.cells #[.int .i64 line, .slice A' F c'] 36)).heap.size = wr.heap.size + 1 := by simp
      have x0 : (wr.alloc (.cells #[.int .i64 line, .slice A' F c'] 36)).cell? ⟨wr.heap.size, 0, none⟩ = some (.int .i64 line) := by rw [Lib.cell_of_heap e1]; rfl
      have x1 : (wr.alloc (.cells #[.int .i64 line, .slice A' F c'] 36)).cell? ⟨wr.heap.size, 1, none⟩ = some (.slice A' F c') := by rw [Lib.cell_of_heap e1]; rfl
      have hMw1 : Below M w (wr.alloc (.cells #[.int .i64 line, .slice A' F c'] 36)) := hI.out.below.trans (hw1.mono (Nat.le_of_lt HMS.out))
      have cE := readEntry_any d s b m n A' fs c' M G N (wr.alloc (.cells #[.int .i64 line, .slice A' F c'] 36)) (by rw [hs1]; have := HMS.out; omega) (hfi.below hMw1) hc1 hc2
        (fun W R j x r q hb hR hj hf hX hR' => by
          obtain ⟨f, hf1, rfl⟩ := hf
          obtain ⟨q1, q2, q3⟩ := HE.out W (hMw1.trans (hb.mono (by rw [hs1]; have := HMS.out; omega)))
          exact read1_any d s b m n f.1 r q R W hX hR' q1 (hszi f hf1) j hj G N q2 q3)
      rw [hF] at cE y1
      unfold EntryOut at cE
      obtain ⟨⟨r, col, e0⟩, hen⟩ : ∃ S, entryM d s b m n fs = S := ⟨_, rfl⟩
      have hrec : recM d s b m n (rs, ps) (line, fs) = if e0 ≠ 0 then (rs, ps ++ [(line, col, e0)]) else if addC rs r.1 ≠ 0 then (rs, ps ++ [(line, col, addC rs r.1)]) else (rs ++ [r], ps) := by unfold recM; rw [hen]
      rw [hrec] at hst
      rw [hen] at cE
      have CE := hid cE
      have HST := hid hst
      have HI := hid hI.out
      have HE1 := hid e1
      have HW1 := hid hw1
      have HS1 := hid hs1
      have HX := hid hx
      have HST0 := hid hst0
      have HFI := hid hfi
      have HSZI := hid hszi
      have HEN := hid hen
      clear hst hst0 hI e1 hw1 hs1 hx hfi hszi hen hrec kc cE hMw1 hF
      go_wp2_with fail
      generalize wr.alloc (.cells #[.int .i64 line, .slice A' F c'] 36) = w1 at CE HE1 HW1 HS1 x0 x1 ⊢
      refine CE.out.mono ?_
      rintro e w2 ⟨⟨q, rfl, hroom⟩, hb2⟩
      have hrl1 : r.1.length < 4294967281 := by
        have := entryM_code d s b m n 4294967281 (by omega) fs HSZI.out
        rw [HEN.out] at this
        exact this
      have hcsz : (ba r.1).size ≤ maxLen := by rw [Lib.size_eq]; show r.1.length ≤ maxLen; unfold maxLen; omega
      have hcl : (codesR rs).length ≤ 16 := by simpa [codesR] using hrl
      have hvs : roomV r q = .agg #[.string (ba r.1), .string (ba r.2.1), .int .i64 r.2.2.1, .slice q.a1 r.2.2.2.1.length q.c1, .slice q.a2 r.2.2.2.2.length q.c2] := rfl
      rw [hvs]
      have hw3 := (Below.refl w2.heap.size w2).alloc (Nat.le_refl _) (.cells #[.string (ba r.1), .string (ba r.2.1), .int .i64 r.2.2.1, .slice q.a1 r.2.2.2.1.length q.c1, .slice q.a2 r.2.2.2.2.length q.c2] 46)
      have hB5 := Box5.new w2 (.string (ba r.1)) (.string (ba r.2.1)) (.int .i64 r.2.2.1) (.slice q.a1 r.2.2.2.1.length q.c1) (.slice q.a2 r.2.2.2.2.length q.c2)
      have hs3 : (w2.alloc (.cells #[.string (ba r.1), .string (ba r.2.1), .int .i64 r.2.2.1, .slice q.a1 r.2.2.2.1.length q.c1, .slice q.a2 r.2.2.2.2.length q.c2] 46)).heap.size = w2.heap.size + 1 := by simp
      obtain ⟨w3, hw3e⟩ : ∃ w3, w2.alloc (.cells #[.string (ba r.1), .string (ba r.2.1), .int .i64 r.2.2.1, .slice q.a1 r.2.2.2.1.length q.c1, .slice q.a2 r.2.2.2.2.length q.c2] 46) = w3 := ⟨_, rfl⟩
      rw [hw3e] at hw3 hB5 hs3
      have hb13 : Below wr.heap.size wr w3 := HW1.out.trans ((hb2.mono (by rw [HS1.out]; omega)).trans (hw3.mono (by have := hb2.size; have := HW1.out.size; omega)))
      have hI3 := HI.out.under hM hb13
      have hroom3 : RoomIn w3 (fun k => w1.heap.size ≤ k ∧ k < w3.heap.size) r q := (hroom.kept (fun k hk => hw3.block k hk.2)).mono (fun k hk => ⟨hk.1, by omega⟩)
      have x03 : w3.cell? ⟨wr.heap.size, 0, none⟩ = some (.int .i64 line) := by
        rw [hw3.cell (p := ⟨wr.heap.size, 0, none⟩) (by have := hb2.size; have := HS1.out; show wr.heap.size < w2.heap.size; omega), hb2.cell (p := ⟨wr.heap.size, 0, none⟩) (by have := HS1.out; show wr.heap.size < w1.heap.size; omega)]
        exact x0
      have hz3 : wr.heap.size < w3.heap.size := by have := hb2.size; have := HS1.out; omega
      have HI3 := hid hI3
      have HR3 := hid hroom3
      have HB5 := hid hB5
      have HZ3 := hid hz3
      have HS3 := hid hs3
      have HZ2 := hid hb2.size
      clear hI3 hroom3 hB5 hb13 hw3 hroom hb2 x0 x1 hvs hz3 hs3
      by_cases he : e0 = 0
      · subst he
        have hst := HST.out
        rw [if_neg (by simp)] at hst
        have hac := addM_codes rs r.1
        have cA := fun W (h : KSet W M (codesR rs)) => add_any M (codesR rs) (ba r.1) (ba r.2.1) r.2.2.1 q.a1 r.2.2.2.1.length q.c1 q.a2 r.2.2.2.2.length q.c2 hcl hcsz W h
        have cA3 := cA w3 HI3.out.map
        unfold AddOut at cA3
        rw [lst_ba, hac.1, hac.2] at cA3
        obtain ⟨e1, he1⟩ : ∃ e1, addC rs r.1 = e1 := ⟨_, rfl⟩
        rw [he1] at cA3 hst
        have CA := hid cA3
        obtain ⟨y0', y1', y2', y3', y4'⟩ := HB5.out.cells
        clear cA cA3 hac
        by_cases he2 : e1 = 0
        · subst he2
          rw [if_neg (by simp)] at hst
          have HSTF := hid hst
          clear hst
          go_wp2_with fail
          refine CA.out.mono ?_
          rintro e w4 ⟨rfl, hk4, hg4⟩
          rw [if_pos trivial] at hk4
          have hk4' : KSet w4 M (codesR (rs ++ [r])) := by simpa [codesR] using hk4
          have hI4 := HI3.out.past hM hg4 hk4'
          have hM3 := HI3.out.below.size
          have hMw : M < w3.heap.size := HI3.out.map.lt
          have hB54 := HB5.out.kept (hg4.block w2.heap.size (by have := HS3.out; omega) (fun e => by injection e; have := HI.out.map.lt; have := HZ2.out; have := HS1.out; omega))
          have hR4 : RoomIn w4 (fun k => w1.heap.size ≤ k ∧ k < w4.heap.size) r q := (HR3.out.kept (fun k hk => hg4.block k hk.2 (fun e => by injection e; have := HI.out.map.lt; have := HS1.out; have := hk.1; omega))).mono (fun k hk => ⟨hk.1, Nat.lt_of_lt_of_le hk.2 hg4.size⟩)
          obtain ⟨Lr0, hL0, ho0, hr0⟩ := hI4.row
          have HRR := hid hr0
          have hz4 : wr.heap.size < w4.heap.size := Nat.lt_of_lt_of_le HZ3.out hg4.size
          have hrz : rs.length = n1 := by
            have hl0 : Lr0.length = rs.length := by rw [← hL0, List.length_map]
            rcases ho0.2 with ⟨hv, h0⟩ | ⟨g, cap, cur, hv, _⟩
            · injection hv with _ h1 _; omega
            · injection hv with _ h1 _; omega
          have hl0 : Lr0.length = n1 := by rw [← hrz, ← hL0, List.length_map]
          rw [hl0] at ho0
          have HMX : Hid (n1 + 1 ≤ maxLen) := hid (by unfold maxLen; omega)
          have HBY : Hid ((n1 + 1) * 88 ≤ 140737488355328) := hid (by omega)
          have HO0 := hid ho0
          have HL0 := hid hL0
          have HLL0 := hid hl0
          have HRZ := hid hrz
          have HI4 := hid hI4
          have HR4 := hid hR4
          have HN5 : Hid (∀ (j : Nat) (u : Value), (roomVs r q)[j]? = some u → (w4.alloc (.cells #[.string (ba r.1), .string (ba r.2.1), .int .i64 r.2.2.1, .slice q.a1 r.2.2.2.1.length q.c1, .slice q.a2 r.2.2.2.2.length q.c2] 46)).cell? ((⟨w4.heap.size, 0, none⟩ : Addr).add j) = some u) := hid (five_new w4 r q)
          have HON : Hid (∀ u ∈ roomVs r q, u.oneCell' = true) := hid (room_one r q)
          have HW4S : Hid (w.heap.size ≤ (w4.alloc (.cells #[.string (ba r.1), .string (ba r.2.1), .int .i64 r.2.2.1, .slice q.a1 r.2.2.2.1.length q.c1, .slice q.a2 r.2.2.2.2.length q.c2] 46)).heap.size) := hid (by have := HWS.out; simp; omega)
          obtain ⟨z0', z1', z2', z3', z4'⟩ := hB54.cells
          clear hr0 hI4 hR4 hB54 hk4 hk4' hg4 ho0 hL0 hl0 hM3 hMw hrz y0' y1' y2' y3' y4'
          go_wp2_with (at_builtin; refine wpList_append_own_at _ rfl _ _ 22 rfl w.heap.size 46 i5 (.agg #[.string ⟨#[]⟩, .string ⟨#[]⟩, .int .i64 0, .slice none 0 0, .slice none 0 0]) 5 88 Tryz.underlying22 hi5 hz5 hs5 hb5 rfl (by decide) _ n1 (roomVals Lr0) rfl (World.ownsRow.alloc HO0.out _) ⟨w4.heap.size, 0, none⟩ 1 1 (roomVs r q) rfl rfl HN5.out HON.out HMX.out HBY.out HW4S.out ?_)
          intro v' w5 hown' hgrow hnil hat
          obtain ⟨g', cap', rfl⟩ := ownsRow_succ (k := n1) hown'
          have hI5 := EInv.room (C := w1.heap.size) HI4.out hM HR4.out (by have := HWS.out; have := HS1.out; omega) (fun k e => by have := HL1.out k e; have := HS1.out; omega) (fun k e => by have := HL2.out k e; have := HS1.out; omega) HL0.out (by rw [HLL0.out]; exact HO0.out) HRR.out (v1' := .slice (some ⟨g', 0, none⟩) (n1 + 1) cap') (by rw [HLL0.out]; exact hown') (grownBy_of_alloc hgrow) (hat.imp id (fun h => ⟨_, h, by simp⟩))
          have HI5 : Hid (EInv M w (recsM d s b m n (l.take (i + 1))).1 (recsM d s b m n (l.take (i + 1))).2 (codesR (recsM d s b m n (l.take (i + 1))).1) (.slice (some ⟨g', 0, none⟩) (n1 + 1) cap') (.slice A2 n2 c2) w5) := hid (by rw [HSTF.out]; exact hI5)
          clear hI5 hown' hgrow hnil hat
          go_wp2_with fail
          go_roundw
          case rel => exact ⟨i + 1, _, _, _, _, _, _, rfl, rfl, by go_num, by omega, HI5⟩
          case measure => simp [RowKit.intOf]; omega
        · rw [if_pos he2] at hst
          have HSTF := hid hst
          have HNE := hid he2
          clear hst
          go_wp2_with fail
          refine CA.out.mono ?_
          rintro e w4 ⟨rfl, hk4, hg4⟩
          rw [if_neg he2] at hk4
          have hI4 := HI3.out.past hM hg4 hk4
          have x04 : w4.cell? ⟨wr.heap.size, 0, none⟩ = some (.int .i64 line) := (World.cell?_of_block (w := w3) (hg4.block wr.heap.size HZ3.out (fun e => by injection e; have := HI.out.map.lt; omega))).trans x03
          have HI4 := hid hI4
          clear hI4 hk4 hg4 y0' y1' y2' y3' y4'
          have hne2 : (e1 != 0) = true := by simpa using HNE.out
          have hpz : ps.length = n2 := by
            rcases HI4.out.probs.2 with ⟨hv, h0⟩ | ⟨g, cap, cur, hv, _⟩
            · injection hv with _ h1 _; omega
            · injection hv with _ h1 _; omega
          have HMX : Hid (n2 + 1 ≤ maxLen) := hid (by unfold maxLen; omega)
          have HBY : Hid ((n2 + 1) * 32 ≤ 140737488355328) := hid (by omega)
          have hprow : ProbsRow w4 w.heap.size (.slice A2 n2 c2) ps := HI4.out.probs
          unfold ProbsRow at hprow
          rw [hpz] at hprow
          have HPR := hid hprow
          have HN4 : Hid (∀ (j : Nat) (u : Value), (probVs (line, col, e1))[j]? = some u → (w4.alloc (.cells #[.int .i64 0, .int .i64 line, .int .i64 col, .int .i64 e1] 66)).cell? ((⟨w4.heap.size, 0, none⟩ : Addr).add j) = some u) := hid (four_new w4 0 line col e1 66)
          have HON : Hid (∀ u ∈ probVs (line, col, e1), u.oneCell' = true) := hid (times_one (0, line, col, e1))
          have HWZ := hid HI4.out.below.size
          have HW3S : Hid (w.heap.size ≤ (w4.alloc (.cells #[.int .i64 0, .int .i64 line, .int .i64 col, .int .i64 e1] 66)).heap.size) := hid (by have := HWZ.out; simp; omega)
          clear hprow
          go_wp2_with (at_builtin; (try rw [hw3e]); refine wpList_append_own_at _ rfl _ _ 37 rfl w.heap.size 66 i4 (.agg #[.int .i64 0, .int .i64 0, .int .i64 0, .int .i64 0]) 4 32 Tryz.underlying37 hi4 hz4 hs4 hb4 rfl (by decide) _ n2 (probVals ps) rfl (World.ownsRow.alloc HPR.out _) ⟨w4.heap.size, 0, none⟩ 1 1 (probVs (line, col, e1)) rfl rfl HN4.out HON.out HMX.out HBY.out HW3S.out ?_)
          intro v' w5 hown' hgrow hnil hat
          obtain ⟨g', cap', rfl⟩ := ownsRow_succ (k := n2) hown'
          have hI5 := HI4.out.prob (p := (line, col, e1)) hM (v2' := .slice (some ⟨g', 0, none⟩) (n2 + 1) cap') (by unfold ProbsRow; rw [probVals_app, List.length_append, hpz]; simpa [probVals] using hown') (grownBy_of_alloc hgrow) (hat.imp id (fun h => ⟨_, h, by simp⟩))
          have HI5 : Hid (EInv M w (recsM d s b m n (l.take (i + 1))).1 (recsM d s b m n (l.take (i + 1))).2 (codesR (recsM d s b m n (l.take (i + 1))).1) (.slice A1 n1 c1) (.slice (some ⟨g', 0, none⟩) (n2 + 1) cap') w5) := hid (by rw [HSTF.out]; exact hI5)
          clear hI5 hown' hgrow hnil hat
          go_wp2_with fail
          go_roundw
          case rel => exact ⟨i + 1, _, _, _, _, _, _, rfl, rfl, by go_num, by omega, HI5⟩
          case measure => simp [RowKit.intOf]; omega
      · have hst := HST.out
        rw [if_pos he] at hst
        have HSTF := hid hst
        clear hst
        have hne : (e0 == 0) = false := by simpa using he
        have HNE := hid he
        have hne2 : (e0 != 0) = true := by simpa using HNE.out
        have hpz : ps.length = n2 := by
          rcases HI3.out.probs.2 with ⟨hv, h0⟩ | ⟨g, cap, cur, hv, _⟩
          · injection hv with _ h1 _; omega
          · injection hv with _ h1 _; omega
        have HMX : Hid (n2 + 1 ≤ maxLen) := hid (by unfold maxLen; omega)
        have HBY : Hid ((n2 + 1) * 32 ≤ 140737488355328) := hid (by omega)
        have hprow : ProbsRow w3 w.heap.size (.slice A2 n2 c2) ps := HI3.out.probs
        unfold ProbsRow at hprow
        rw [hpz] at hprow
        have HPR := hid hprow
        have HN4 : Hid (∀ (j : Nat) (u : Value), (probVs (line, col, e0))[j]? = some u → (w3.alloc (.cells #[.int .i64 0, .int .i64 line, .int .i64 col, .int .i64 e0] 66)).cell? ((⟨w3.heap.size, 0, none⟩ : Addr).add j) = some u) := hid (four_new w3 0 line col e0 66)
        have HON : Hid (∀ u ∈ probVs (line, col, e0), u.oneCell' = true) := hid (times_one (0, line, col, e0))
        have HWZ := hid HI3.out.below.size
        have HW3S : Hid (w.heap.size ≤ (w3.alloc (.cells #[.int .i64 0, .int .i64 line, .int .i64 col, .int .i64 e0] 66)).heap.size) := hid (by have := HWZ.out; simp; omega)
        clear hprow
        go_wp2_with (at_builtin; (try rw [hw3e]); refine wpList_append_own_at _ rfl _ _ 37 rfl w.heap.size 66 i4 (.agg #[.int .i64 0, .int .i64 0, .int .i64 0, .int .i64 0]) 4 32 Tryz.underlying37 hi4 hz4 hs4 hb4 rfl (by decide) _ n2 (probVals ps) rfl (World.ownsRow.alloc HPR.out _) ⟨w3.heap.size, 0, none⟩ 1 1 (probVs (line, col, e0)) rfl rfl HN4.out HON.out HMX.out HBY.out HW3S.out ?_)
        intro v' w5 hown' hgrow hnil hat
        obtain ⟨g', cap', rfl⟩ := ownsRow_succ (k := n2) hown'
        have hI5 := HI3.out.prob (p := (line, col, e0)) hM (v2' := .slice (some ⟨g', 0, none⟩) (n2 + 1) cap') (by unfold ProbsRow; rw [probVals_app, List.length_append, hpz]; simpa [probVals] using hown') (grownBy_of_alloc hgrow) (hat.imp id (fun h => ⟨_, h, by simp⟩))
        have HI5 : Hid (EInv M w (recsM d s b m n (l.take (i + 1))).1 (recsM d s b m n (l.take (i + 1))).2 (codesR (recsM d s b m n (l.take (i + 1))).1) (.slice A1 n1 c1) (.slice (some ⟨g', 0, none⟩) (n2 + 1) cap') w5) := hid (by rw [HSTF.out]; exact hI5)
        clear hI5 hown' hgrow hnil hat
        go_wp2_with fail
        go_roundw
        case rel => exact ⟨i + 1, _, _, _, _, _, _, rfl, rfl, by go_num, by omega, HI5⟩
        case measure => simp [RowKit.intOf]; omega
    · have hltz : ¬ (i : Int) < (l.length : Int) := by omega
      rw [List.take_of_length_le (by omega)] at hI
      go_wp2
      go_ret2
      exact ⟨_, _, rfl, hI.out⟩
end Go.Proofs.YteckefolakjafaaGreatDoor

