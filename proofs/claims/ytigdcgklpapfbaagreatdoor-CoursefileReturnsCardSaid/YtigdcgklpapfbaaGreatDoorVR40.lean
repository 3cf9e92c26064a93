/-
  The sanity check of coursefile's statements: a class is read, and has its times. Condition: the variables hold what their text lays.
  The walk of CoursefileValid, its mathematics: how many times a class has. Conditions: as the lemmas state.
-/
import Derived.Test.YtigdcgklpapfbaaGreatDoorVR39
set_option linter.unusedVariables false
namespace Go.Proofs.YtigdcgklpapfbaaGreatDoor.S10
open Go Go.Proofs Go.RowKit Go.Lib Go.Proofs.YtigdcgklpapfbaaGreatDoor

def awRow : List Str := [[99, 49], [77, 65], [76], [50], [111, 100, 100, 47, 101, 118, 101, 110], [51, 48], [], [97, 100, 97], [77, 111, 32, 51, 59, 84, 117, 32, 49]]
def awClass : ClassD := ⟨[99, 49], [77, 65], [76], 2, [5, 10], 30, [], [[97, 100, 97]], [(0, 2), (1, 0)]⟩
theorem aw0 : frameB 5 10 480 45 4 = true := by kernel_rfl
theorem aw1 : S3.validC [99, 49] = true := by kernel_rfl
theorem aw2 : S3.validC [77, 65] = true := by kernel_rfl
theorem aw3 : S3.validC [76] = true := by kernel_rfl
theorem aw4 : lenM 10 [50] = (2, 0) := by kernel_rfl
theorem aw5 : patsM 4 [111, 100, 100, 47, 101, 118, 101, 110] = ([5, 10], 0) := by kernel_rfl
theorem aw6 : seatsF [51, 48] = (30, 0) := by kernel_rfl
theorem aw7 : featsM [] = ([], 0) := by
  have h : S3.listM [] = ([], 0) := by kernel_rfl
  unfold featsM
  rw [h]
  simp [sortS]
theorem aw7b : featsM [97, 100, 97] = ([[97, 100, 97]], 0) := by
  have h : S3.listM [97, 100, 97] = ([[97, 100, 97]], 0) := by kernel_rfl
  unfold featsM
  rw [h]
  simp [sortS]
theorem aw9 : startsM 5 10 480 45 2 [77, 111, 32, 51, 59, 84, 117, 32, 49] = ([(0, 2), (1, 0)], 0) := by
  have h : partsM (startM 5 10 480 45 2) 59 24 [77, 111, 32, 51, 59, 84, 117, 32, 49] = ([(0, 2), (1, 0)], 0) := by kernel_rfl
  have hd : dupB [((0 : Int), (2 : Int)), (1, 0)] = false := by kernel_rfl
  have hs : sortT [((0 : Int), (2 : Int)), (1, 0)] = [(0, 2), (1, 0)] := by
    unfold sortT
    exact List.mergeSort_of_pairwise (by simp [leS])
  unfold startsM
  rw [if_neg (by simp), h]
  dsimp only
  rw [if_neg (by simp), hd, if_neg (by simp), hs]
theorem aw8 : entryM 5 10 480 45 4 (colsM 1 awRow) = (awClass, 0, 0) := by
  unfold entryM awRow
  simp [colsM, efold, setF, zeroC, aw1, aw2, aw3, aw4, aw5, aw6, aw7, aw7b, aw9, awClass]
theorem awRead : readM 5 10 480 45 4 (plainM [awRow]) = ([awClass], []) := by
  have h : plainM [awRow] = [(1, colsM 1 awRow)] := rfl
  unfold readM
  rw [if_pos aw0, h]
  simp [recsM, recM, aw8, addC, codesK]
theorem awTimes : (timesC 5 10 480 45 awClass).length = 4 := by kernel_rfl
theorem awTot : awClass.pats.length * (startsOf 5 10 awClass).length ≤ 4096 := by
  unfold startsOf awClass
  simp
theorem awSize : ∀ x ∈ plainM [awRow], ∀ f ∈ x.2, f.1.length < 4294967281 := by
  have h : plainM [awRow] = [(1, colsM 1 awRow)] := rfl
  have hl : ∀ p ∈ awRow, p.length < 4294967281 := by
    intro p hp
    simp [awRow] at hp
    rcases hp with rfl | rfl | rfl | rfl | rfl | rfl | rfl | rfl | rfl <;> decide
  intro x hx f hf
  rw [h, List.mem_singleton] at hx
  subst hx
  exact hl _ (by
    have : ∀ g ∈ colsM 1 awRow, g.1 ∈ awRow := by
      intro g hg
      simp [colsM, awRow] at hg
      simp [awRow]
      rcases hg with rfl | rfl | rfl | rfl | rfl | rfl | rfl | rfl | rfl <;> simp
    exact this f hf)
set_option maxHeartbeats 1000000 in
theorem week_any (w : World) : Calls Tryz.prog 45 #[] w (Says (.agg #[.int .i64 5, .int .i64 10, .int .i64 480, .int .i64 45]) w) := by
  unfold Says
  go_enter Tryz.func45, Tryz.ntmps45
  go_wp2
  go_returns
  exact ⟨rfl, (Below.refl _ _).alloc (Nat.le_refl _) _⟩
theorem aw_rows (w : World) : ∃ w2, w2 = (w.alloc (.cells #[.string ⟨#[99, 49]⟩, .string ⟨#[77, 65]⟩, .string ⟨#[76]⟩, .string ⟨#[50]⟩, .string ⟨#[111, 100, 100, 47, 101, 118, 101, 110]⟩, .string ⟨#[51, 48]⟩, .string ⟨#[]⟩, .string ⟨#[97, 100, 97]⟩, .string ⟨#[77, 111, 32, 51, 59, 84, 117, 32, 49]⟩] 9)).alloc (.cells #[.slice (some ⟨w.heap.size, 0, none⟩) 9 9] 30) ∧
    RowsIn w2 (fun k => k < w.heap.size + 2) (some ⟨w.heap.size + 1, 0, none⟩) [awRow] ∧ Below w.heap.size w w2 ∧ w2.heap.size = w.heap.size + 2 := by
  refine ⟨_, rfl, ?_, ((Below.refl _ w).alloc (Nat.le_refl _) _).alloc (by simp) _, by simp⟩
  have e1 := heap_alloc_new w (.cells #[.string ⟨#[99, 49]⟩, .string ⟨#[77, 65]⟩, .string ⟨#[76]⟩, .string ⟨#[50]⟩, .string ⟨#[111, 100, 100, 47, 101, 118, 101, 110]⟩, .string ⟨#[51, 48]⟩, .string ⟨#[]⟩, .string ⟨#[97, 100, 97]⟩, .string ⟨#[77, 111, 32, 51, 59, 84, 117, 32, 49]⟩] 9)
  have hs : (w.alloc (.cells #[.string ⟨#[99, 49]⟩, .string ⟨#[77, 65]⟩, .string ⟨#[76]⟩, .string ⟨#[50]⟩, .string ⟨#[111, 100, 100, 47, 101, 118, 101, 110]⟩, .string ⟨#[51, 48]⟩, .string ⟨#[]⟩, .string ⟨#[97, 100, 97]⟩, .string ⟨#[77, 111, 32, 51, 59, 84, 117, 32, 49]⟩] 9)).heap.size = w.heap.size + 1 := by simp
  generalize w.alloc (.cells #[.string ⟨#[99, 49]⟩, .string ⟨#[77, 65]⟩, .string ⟨#[76]⟩, .string ⟨#[50]⟩, .string ⟨#[111, 100, 100, 47, 101, 118, 101, 110]⟩, .string ⟨#[51, 48]⟩, .string ⟨#[]⟩, .string ⟨#[97, 100, 97]⟩, .string ⟨#[77, 111, 32, 51, 59, 84, 117, 32, 49]⟩] 9) = w1 at e1 hs ⊢
  have e2 := heap_alloc_new w1 (.cells #[.slice (some ⟨w.heap.size, 0, none⟩) 9 9] 30)
  have e3 := (Below.heap_alloc w1 (.cells #[.slice (some ⟨w.heap.size, 0, none⟩) 9 9] 30) w.heap.size (by omega)).trans e1
  rw [hs] at e2
  refine .inr ⟨w.heap.size + 1, 0, rfl, by omega, fun j l hj => ?_⟩
  match j, hj with
  | 0, hj =>
    obtain rfl : awRow = l := by simpa using hj
    refine ⟨some ⟨w.heap.size, 0, none⟩, 9, by rw [Lib.cell_of_heap e2]; rfl, by decide, by decide, .inr ⟨w.heap.size, 0, rfl, by omega, fun j s hj => ?_⟩⟩
    match j, hj with
    | 0, hj => obtain rfl : [99, 49] = s := by simpa [awRow] using hj
               rw [Lib.cell_of_heap e3]; rfl
    | 1, hj => obtain rfl : [77, 65] = s := by simpa [awRow] using hj
               rw [Lib.cell_of_heap e3]; rfl
    | 2, hj => obtain rfl : [76] = s := by simpa [awRow] using hj
               rw [Lib.cell_of_heap e3]; rfl
    | 3, hj => obtain rfl : [50] = s := by simpa [awRow] using hj
               rw [Lib.cell_of_heap e3]; rfl
    | 4, hj => obtain rfl : [111, 100, 100, 47, 101, 118, 101, 110] = s := by simpa [awRow] using hj
               rw [Lib.cell_of_heap e3]; rfl
    | 5, hj => obtain rfl : [51, 48] = s := by simpa [awRow] using hj
               rw [Lib.cell_of_heap e3]; rfl
    | 6, hj => obtain rfl : [] = s := by simpa [awRow] using hj
               rw [Lib.cell_of_heap e3]; rfl
    | 7, hj => obtain rfl : [97, 100, 97] = s := by simpa [awRow] using hj
               rw [Lib.cell_of_heap e3]; rfl
    | 8, hj => obtain rfl : [77, 111, 32, 51, 59, 84, 117, 32, 49] = s := by simpa [awRow] using hj
               rw [Lib.cell_of_heap e3]; rfl
    | j + 9, hj => simp [awRow] at hj
  | j + 1, hj => simp at hj
/-- What lies while the class is looked at. -/
structure KW (w0 : World) (b off bT oT : Nat) (q : ClassA) (W : World) : Prop where
  i : ClassIn W (fun k => k < W.heap.size) awClass q
  c : ClassAt W b off awClass q
  cl : b < W.heap.size
  t : W.cell? ⟨bT, oT + 1, none⟩ = some (.int .i64 2)
  tl : bT < W.heap.size
  b : Below w0.heap.size w0 W
theorem KW.next {w0 W W' : World} {b off bT oT : Nat} {q : ClassA} (h : KW w0 b off bT oT q W) (k : Below W.heap.size W W') : KW w0 b off bT oT q W' :=
  ⟨(h.i.kept (fun j hj => k.block j hj)).mono (fun j hj => Nat.lt_of_lt_of_le hj k.size), h.c.kept (k.block b h.cl), Nat.lt_of_lt_of_le h.cl k.size, (k.cell (p := ⟨bT, oT + 1, none⟩) h.tl).trans h.t, Nat.lt_of_lt_of_le h.tl k.size, h.b.trans (k.mono h.b.size)⟩
theorem KW.ten {w0 w' : World} {b off bT oT cP cF cS cT : Nat} {aP aF aS : Option Addr} (h : KW w0 b off bT oT ⟨aP, cP, aF, cF, aS, cS, some ⟨bT, oT, none⟩, cT⟩ w') : w'.cell? ⟨b, off, none⟩ = some (.string (ba [99, 49])) ∧ w'.cell? ⟨b, off + 1, none⟩ = some (.string (ba [77, 65])) ∧ w'.cell? ⟨b, off + 2, none⟩ = some (.string (ba [76])) ∧ w'.cell? ⟨b, off + 3, none⟩ = some (.int .i64 2) ∧ w'.cell? ⟨b, off + 4, none⟩ = some (.slice aP 2 cP) ∧ w'.cell? ⟨b, off + 5, none⟩ = some (.int .i64 30) ∧ w'.cell? ⟨b, off + 6, none⟩ = some (.slice aF 0 cF) ∧ w'.cell? ⟨b, off + 7, none⟩ = some (.slice aS 1 cS) ∧ w'.cell? ⟨b, off + 8, none⟩ = some (.slice (some ⟨bT, oT, none⟩) 2 cT) ∧ w'.cell? ⟨bT, oT + 1, none⟩ = some (.int .i64 2) :=
  ⟨h.c.c0, h.c.c1, h.c.c2, h.c.c3, h.c.c4, h.c.c5, h.c.c6, h.c.c7, h.c.c8, h.t⟩
set_option maxHeartbeats 16000000 in
set_option maxRecDepth 100000 in
theorem awake_any (w : World) (hE : Env7 w) : Calls Tryz.prog 15 #[] w (Says (.bool true) w) := by
  obtain ⟨w2, hw2, hrows, hb2, hs2⟩ := aw_rows w
  have cP := plain_any (some ⟨w.heap.size + 1, 0, none⟩) [awRow] 1 (w.heap.size + 2) w2 (by omega) hrows (by decide) (by decide) (by decide)
  have CP := hid cP
  have HB2 := hid hb2
  clear cP hb2 hrows
  unfold Says
  go_enter Tryz.func15, Tryz.ntmps15
  go_wp2_with fail
  (try rw [← hw2])
  refine CP.out.mono ?_
  rintro e w3 ⟨⟨v, rfl, hrr⟩, hb3⟩
  obtain ⟨A3, c3, rfl, hl3, hc3, hrin⟩ := hrr.recsIn
  have hB3 : Below w.heap.size w w3 := HB2.out.trans (hb3.mono HB2.out.size)
  have HB3 := hid hB3
  have HRI := hid hrin
  clear hb3 hrr hrin hB3 HB2 CP hw2 hs2
  go_wp2_with fail
  refine (week_any w3).mono ?_
  unfold Says
  rintro e w4 ⟨rfl, hb4⟩
  have hB4 : Below w.heap.size w w4 := HB3.out.trans (hb4.mono HB3.out.size)
  have cR := readA_any 5 10 480 45 4 A3 (plainM [awRow]) c3 w4 ((HRI.out.kept (fun k hk => hb4.block k hk.2)).mono (fun k hk => Nat.lt_of_lt_of_le hk.2 hb4.size)) (by rw [plainM_len]; decide) awSize (hE.below hB4 (Nat.le_refl _))
  rw [awRead, plainM_len] at cR
  rw [plainM_len]
  unfold ReadOut at cR
  have CR := hid cR
  have HB4 := hid hB4
  clear cR hB4 hb4 hl3 hE HRI HB3
  go_wp2_with fail
  refine CR.out.mono ?_
  rintro e w5 ⟨v1, v2, rfl, hrm, hpr, hb5⟩
  obtain ⟨A4, c4, rfl, hl4, hc4, hin4⟩ := hrm.classesIn
  obtain ⟨b, off, q, rfl, hPb, hrq, hat⟩ := hin4.at_ (k := 0) (by decide)
  have hv2 : ∃ A5 c5, v2 = .slice A5 0 c5 := by
    rcases hpr.2 with ⟨hv, _⟩ | ⟨g, cap, cur, hv, _⟩
    · exact ⟨_, _, hv⟩
    · exact ⟨_, _, hv⟩
  obtain ⟨A5, c5, rfl⟩ := hv2
  simp only [List.getElem_cons_zero] at hrq hat
  have hbl : b < w5.heap.size := by rcases hPb with h | h <;> exact h.2
  have hB5 : Below w.heap.size w w5 := HB4.out.trans (hb5.mono HB4.out.size)
  have hro : ClassIn w5 (fun k => k < w5.heap.size) awClass q := hrq.mono (fun k hk => by rcases hk with h | h <;> exact h.2)
  obtain ⟨aP, cP, aF, cF, aS, cS, aT, cT⟩ := q
  obtain ⟨bT, oT, hAT, hTl, t0, t1⟩ := FlatIn.start (k := 0) hro.t (by decide)
  dsimp only at hAT
  subst hAT
  simp only [Nat.zero_mul, Nat.add_zero] at hat t1 hl4
  have hK : KW w b off bT oT ⟨aP, cP, aF, cF, aS, cS, some ⟨bT, oT, none⟩, cT⟩ w5 := ⟨hro, hat, hbl, t1, hTl, hB5⟩
  have cTT := fun (W : World) (h : KW w b off bT oT ⟨aP, cP, aF, cF, aS, cS, some ⟨bT, oT, none⟩, cT⟩ W) => times_any 5 10 480 45 awClass ⟨aP, cP, aF, cF, aS, cS, some ⟨bT, oT, none⟩, cT⟩ W h.i awTot
  unfold TimeRow at cTT
  rw [awTimes] at cTT
  have cNN : ∀ (W : World), KW w b off bT oT ⟨aP, cP, aF, cF, aS, cS, some ⟨bT, oT, none⟩, cT⟩ W → Calls Tryz.prog 11 #[.agg #[.string (ba [99, 49]), .string (ba [77, 65]), .string (ba [76]), .int .i64 2, .slice aP 2 cP, .int .i64 30, .slice aF 0 cF, .slice aS 1 cS, .slice (some ⟨bT, oT, none⟩) 2 cT], .agg #[.int .i64 5, .int .i64 10, .int .i64 480, .int .i64 45]] W fun e w' => (∃ A c, e = .returned (.slice A 4 c)) ∧ Below W.heap.size W w' := fun W h => (cTT W h).mono (by
    rintro e w' ⟨⟨v, rfl, hr⟩, hb⟩
    obtain ⟨A, c, rfl⟩ := row_slice hr
    exact ⟨⟨A, c, rfl⟩, hb⟩)
  have CN := hid cNN
  have hk' := hK
  have hten := hK.ten
  have HK := hid hK
  clear cTT cNN hK hat hro hrq hrm hpr hb5 hin4 hPb t0 t1 hB5 CR HB4 hbl hTl
  simp only [List.length_cons, List.length_nil, Nat.zero_add] at hl4 ⊢
  obtain ⟨x0, x1, x2, x3, x4, x5, x6, x7, x8, x9⟩ := hten
  go_upto_region 2 with fail
  go_region_held3 (fun w' => w'.cell? ⟨b, off, none⟩ = some (.string (ba [99, 49])) ∧ w'.cell? ⟨b, off + 1, none⟩ = some (.string (ba [77, 65])) ∧ w'.cell? ⟨b, off + 2, none⟩ = some (.string (ba [76])) ∧ w'.cell? ⟨b, off + 3, none⟩ = some (.int .i64 2) ∧ w'.cell? ⟨b, off + 4, none⟩ = some (.slice aP 2 cP) ∧ w'.cell? ⟨b, off + 5, none⟩ = some (.int .i64 30) ∧ w'.cell? ⟨b, off + 6, none⟩ = some (.slice aF 0 cF) ∧ w'.cell? ⟨b, off + 7, none⟩ = some (.slice aS 1 cS) ∧ w'.cell? ⟨b, off + 8, none⟩ = some (.slice (some ⟨bT, oT, none⟩) 2 cT) ∧ w'.cell? ⟨bT, oT + 1, none⟩ = some (.int .i64 2))
    (first | with_reducible exact hk'.ten | with_reducible exact (hk'.next (Below.refl _ _).drew).ten | exact (hk'.next (Below.refl _ _).drew).ten)
    (first
      | (go_at_call 45; (refine (week_any _).mono ?_); unfold Says; rintro e wq ⟨rfl, hbq⟩; have hk' := (hk'.next (Below.refl _ _).drew).next hbq)
      | (go_at_call 11; (refine (CN.out _ hk').mono ?_); rintro e wq ⟨⟨A6, c6, rfl⟩, hbq⟩; have hk' := hk'.next hbq))
  all_goals
    go_wp2
    go_ret
    exact ⟨rfl, hk'.b⟩
end Go.Proofs.YtigdcgklpapfbaaGreatDoor.S10

set_option linter.unusedVariables false
namespace Go.Proofs.YtigdcgklpapfbaaGreatDoor.S10
open Go Go.Proofs Go.RowKit Go.Lib Go.Proofs.YtigdcgklpapfbaaGreatDoor

theorem dayStarts_le {y k : Nat} : ∀ t ∈ dayStarts y k, t.2 ≤ (k : Int) := by
  intro t ht
  obtain ⟨u, hu, rfl⟩ := List.mem_map.1 ht
  have := List.mem_range.1 hu
  show (u : Int) ≤ k
  omega
theorem allS_le {d s len : Int} (hs : s ≤ 24) (hl : 1 ≤ len) : ∀ t ∈ allS d s len, t.2 ≤ 9223372036854775807 := by
  intro t ht
  obtain ⟨y, _, hy⟩ := List.mem_flatMap.1 ht
  have := dayStarts_le t hy
  omega
theorem timesC_le {d s b m : Int} {x : ClassD} (hx : ∀ t ∈ x.starts, t.2 ≤ 9223372036854775807) : ∀ t ∈ timesC d s b m x, t.2.2.1 ≤ 9223372036854775807 := by
  intro t ht
  unfold timesC at ht
  split at ht
  · rename_i h
    have hs := (grid_of h.1).2.1.2
    obtain ⟨k, _, hk⟩ := List.mem_flatMap.1 ht
    obtain ⟨u, hu, rfl⟩ := List.mem_map.1 hk
    show u.2 ≤ _
    unfold startsOf at hu
    split at hu
    · exact allS_le hs h.2.1 u hu
    · exact hx u hu
  · simp at ht
end Go.Proofs.YtigdcgklpapfbaaGreatDoor.S10
