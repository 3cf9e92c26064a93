/-
  The program's Read of roomfile. Conditions: the variables hold what their text lays; the records lie in memory, their fields below 2^32 bytes.
  The sanity check of the laws of roomfile. Conditions: the variables hold what their text lays.
  Slices of structs that came in: what they hold. Conditions: as the lemmas state.
  Rooms and records that came in: what they hold, and how long their texts are. Conditions: as the lemmas state.
-/
import Derived.Test.YteckefolakjafaaGreatDoorBV34
import Derived.Test.YteckefolakjafaaGreatDoorBV25
import Derived.Test.YteckefolakjafaaGreatDoorBV32
import Derived.Test.YteckefolakjafaaGreatDoorRows
import Derived.Deep.RegionHeld3
import Derived.Deep.Slices
import Derived.Lib.SmallJoins
set_option linter.unusedVariables false
namespace Go.Proofs.YteckefolakjafaaGreatDoor
open Go Go.Proofs Go.RowKit Go.Lib

/-- What reading rooms leaves behind. -/
def ReadOut (o : List RoomD × List ProbD) (w : World) (e : Ending) (w' : World) : Prop :=
  ∃ v1 v2, e = .returned (.tuple #[v1, v2]) ∧ RoomRow w' w.heap.size (fun k => w.heap.size ≤ k ∧ k < w'.heap.size) v1 o.1 ∧ ProbsRow w' w.heap.size v2 o.2 ∧ Below w.heap.size w w'
/-- The boxes of the grid and the number. -/
structure KG (w0 : World) (d s b m n : Int) (w : World) : Prop where
  g : Box4 w w0.heap.size d s b m
  n : w.cell? ⟨w0.heap.size + 1, 0, none⟩ = some (.int .i64 n)
  z : w0.heap.size + 1 < w.heap.size
  b : Below w0.heap.size w0 w
theorem KG.next {w0 w w' : World} {d s b m n : Int} {C : Nat} (h : KG w0 d s b m n w) (k : Below C w w') (hC : w0.heap.size + 1 < C) : KG w0 d s b m n w' :=
  ⟨h.g.next k (by omega), (k.cell (p := ⟨w0.heap.size + 1, 0, none⟩) hC).trans h.n, Nat.lt_of_lt_of_le h.z k.size, h.b.trans (k.mono (by omega))⟩
theorem KG.first (w : World) (d s b m n : Int) (T : TypeId) (o : Obj) (ho : o = .cells #[.int .i64 n] 3) : KG w d s b m n ((w.alloc (.cells #[.int .i64 d, .int .i64 s, .int .i64 b, .int .i64 m] T)).alloc o) := by
  subst ho
  have h1 := Box4.new w d s b m T
  have hb1 := (Below.refl w.heap.size w).alloc (Nat.le_refl _) (.cells #[.int .i64 d, .int .i64 s, .int .i64 b, .int .i64 m] T)
  have hs : (w.alloc (.cells #[.int .i64 d, .int .i64 s, .int .i64 b, .int .i64 m] T)).heap.size = w.heap.size + 1 := by simp
  generalize w.alloc (.cells #[.int .i64 d, .int .i64 s, .int .i64 b, .int .i64 m] T) = w1 at h1 hb1 hs ⊢
  have hb3 := (Below.refl w1.heap.size w1).alloc (Nat.le_refl _) (.cells #[.int .i64 n] 3)
  have e3 := heap_alloc_new w1 (.cells #[.int .i64 n] 3)
  rw [hs] at e3
  refine ⟨h1.next hb3 (by omega), by rw [Lib.cell_of_heap e3]; rfl, by simp [hs], hb1.trans (hb3.mono (by omega))⟩
theorem TimeRow.low' {w : World} {e z n B B' : Nat} {v : Value} {xs : List Value} (h : w.ownsRow B e z v n xs) (hB : B' ≤ B) : w.ownsRow B' e z v n xs := by
  obtain ⟨h1, h2⟩ := h
  refine ⟨h1, ?_⟩
  rcases h2 with h2 | ⟨g, cap, cur, hv, hg, r⟩
  · exact .inl h2
  · exact .inr ⟨g, cap, cur, hv, Nat.le_trans hB hg, r⟩
theorem prob_new (w : World) (e : Int) : ProbsRow (w.alloc (.cells #[.int .i64 0, .int .i64 0, .int .i64 0, .int .i64 e] 66)) w.heap.size (.slice (some ⟨w.heap.size, 0, none⟩) 1 1) [(0, 0, e)] := by
  exact ⟨rfl, .inr ⟨w.heap.size, 1, _, rfl, Nat.le_refl _, heap_alloc_new w _, Nat.le_refl 1, by unfold maxLen; omega, rfl, rfl⟩⟩
set_option maxHeartbeats 16000000 in
set_option maxRecDepth 100000 in
theorem read7_any (d s b m n : Int) (A : Option Addr) (l : List RecD) (c : Nat) (w : World) (h : RecsIn w (fun k => k < w.heap.size) A l) (hl : l.length ≤ 1073741824)
    (hsz : ∀ x ∈ l, ∀ f ∈ x.2, f.1.length < 4294967281) (hE : Env7 w) :
    Calls Tryz.prog 11 #[.slice A l.length c, .agg #[.int .i64 d, .int .i64 s, .int .i64 b, .int .i64 m], .int .i64 n] w (ReadOut (readM d s b m n l) w) := by
  have hmm := @run_makeMap Tryz.prog
  unfold ReadOut readM
  have hk := KG.first w d s b m n 24 _ rfl
  obtain ⟨g0, g1, g2, g3, _⟩ := hk.g
  have gn := hk.n
  have cF := fun w => rframe_any d s b m n w
  unfold Says at cF
  have HK := hid hk
  have HH := hid h
  have HE := hid hE
  have HSZ := hid hsz
  clear hk h hE hsz
  cases hf : frameB d s b m n with
  | false =>
    simp only [hf, if_false] at cF ⊢
    have CF := hid cF
    clear cF hf
    go_enter Tryz.func11, Tryz.ntmps11
    go_wp2_with fail
    refine (CF.out _).mono ?_
    rintro e w1 ⟨rfl, hb⟩
    have HB := hid hb
    clear hb
    go_wp2
    go_ret2
    have hz := HB.out.size
    simp at hz
    refine ⟨_, _, rfl, ⟨[], rfl, World.ownsRow_nil _ _ _ _, fun p hp => by simp at hp⟩, TimeRow.low' (prob_new w1 1) (by omega), ?_⟩
    exact (HK.out.b.trans (HB.out.mono (by simp; omega))).trans ((Below.refl _ w1).alloc (by omega) _)
  | true =>
    simp only [hf, if_true] at cF ⊢
    have CF := hid cF
    clear cF hf
    go_enter Tryz.func11, Tryz.ntmps11
    go_wp2_with fail
    refine (CF.out _).mono ?_
    rintro e w1 ⟨rfl, hb⟩
    have hk1 := HK.out.next hb (by simp)
    have HK1 := hid hk1
    have hz1 := HK1.out.z
    have hM : KSet (w1.alloc (.map #[] 0)) w1.heap.size [] := KSet.made w1
    have hbm : Below w1.heap.size w1 (w1.alloc (.map #[] 0)) := (Below.refl _ w1).alloc (Nat.le_refl _) _
    have hs2 : (w1.alloc (.map #[] 0)).heap.size = w1.heap.size + 1 := by simp
    have hrec : RecsIn (w1.alloc (.map #[] 0)) (fun k => k < w1.heap.size) A l := ((HH.out.below (HK1.out.b.trans (hbm.mono (by omega)))).mono (fun k hk => Nat.lt_trans (Nat.lt_of_lt_of_le hk (Nat.le_succ _)) hz1))
    have cE := entries_any d s b m n A l c w1.heap.size w.heap.size (w.heap.size + 1) (w1.alloc (.map #[] 0)) (by rw [hs2]; omega) hrec hl HSZ.out
      (fun W hW => by
        have hk := (HK1.out.next hbm hz1).next hW hz1
        exact ⟨HE.out.below hk.b (Nat.le_refl _), hk.g, hk.n⟩) hM
    unfold EntsOut at cE
    have CE := hid cE
    clear hb hk1 cE hrec hM hs2 hbm
    go_wp2_with fail
    refine CE.out.mono ?_
    rintro e w3 ⟨v1, v2, rfl, hi⟩
    have HI := hid hi
    clear hi
    go_wp2
    go_ret2
    obtain ⟨⟨Lr, hL, ho, hr⟩, hp, _, hb⟩ := HI.out
    have hs2 : (w1.alloc (.map #[] 0)).heap.size = w1.heap.size + 1 := by simp
    have hn : (recsM d s b m n l).1.length = Lr.length := by rw [← hL, List.length_map]
    refine ⟨v1, v2, rfl, ⟨Lr, hL, ?_, fun p hp' => (hr p hp').mono (fun k hk => ⟨by omega, hk.2.1⟩)⟩, TimeRow.low' hp (by omega), ?_⟩
    · rw [hn]
      exact TimeRow.low' ho (by omega)
    · exact HK1.out.b.trans (((Below.refl w1.heap.size w1).alloc (Nat.le_refl _) (.map #[] 0)).trans hb |>.mono (by omega))
end Go.Proofs.YteckefolakjafaaGreatDoor

set_option linter.unusedVariables false
namespace Go.Proofs.YteckefolakjafaaGreatDoor
open Go Go.Proofs Go.RowKit Go.Lib

theorem aw_rows (w : World) : ∃ w2, w2 = (w.alloc (.cells #[.string ⟨#[82, 49]⟩, .string ⟨#[66]⟩, .string ⟨#[51, 48]⟩, .string ⟨#[108, 97, 98, 59, 98, 101, 97, 109, 101, 114]⟩, .string ⟨#[77, 111, 32, 49, 45, 50]⟩] 9)).alloc (.cells #[.slice (some ⟨w.heap.size, 0, none⟩) 5 5] 43) ∧
    RowsIn w2 (fun k => k < w.heap.size + 2) (some ⟨w.heap.size + 1, 0, none⟩) [awRow] ∧ Below w.heap.size w w2 ∧ w2.heap.size = w.heap.size + 2 := by
  refine ⟨_, rfl, ?_, ((Below.refl _ w).alloc (Nat.le_refl _) _).alloc (by simp) _, by simp⟩
  have e1 := heap_alloc_new w (.cells #[.string ⟨#[82, 49]⟩, .string ⟨#[66]⟩, .string ⟨#[51, 48]⟩, .string ⟨#[108, 97, 98, 59, 98, 101, 97, 109, 101, 114]⟩, .string ⟨#[77, 111, 32, 49, 45, 50]⟩] 9)
  have hs : (w.alloc (.cells #[.string ⟨#[82, 49]⟩, .string ⟨#[66]⟩, .string ⟨#[51, 48]⟩, .string ⟨#[108, 97, 98, 59, 98, 101, 97, 109, 101, 114]⟩, .string ⟨#[77, 111, 32, 49, 45, 50]⟩] 9)).heap.size = w.heap.size + 1 := by simp
  generalize w.alloc (.cells #[.string ⟨#[82, 49]⟩, .string ⟨#[66]⟩, .string ⟨#[51, 48]⟩, .string ⟨#[108, 97, 98, 59, 98, 101, 97, 109, 101, 114]⟩, .string ⟨#[77, 111, 32, 49, 45, 50]⟩] 9) = w1 at e1 hs ⊢
  have e2 := heap_alloc_new w1 (.cells #[.slice (some ⟨w.heap.size, 0, none⟩) 5 5] 43)
  have e3 := (Below.heap_alloc w1 (.cells #[.slice (some ⟨w.heap.size, 0, none⟩) 5 5] 43) w.heap.size (by omega)).trans e1
  rw [hs] at e2
  refine .inr ⟨w.heap.size + 1, 0, rfl, by omega, fun j l hj => ?_⟩
  match j, hj with
  | 0, hj =>
    obtain rfl : awRow = l := by simpa using hj
    refine ⟨some ⟨w.heap.size, 0, none⟩, 5, by rw [Lib.cell_of_heap e2]; rfl, by decide, by decide, .inr ⟨w.heap.size, 0, rfl, by omega, fun j s hj => ?_⟩⟩
    match j, hj with
    | 0, hj => obtain rfl : [82, 49] = s := by simpa [awRow] using hj
               rw [Lib.cell_of_heap e3]; rfl
    | 1, hj => obtain rfl : [66] = s := by simpa [awRow] using hj
               rw [Lib.cell_of_heap e3]; rfl
    | 2, hj => obtain rfl : [51, 48] = s := by simpa [awRow] using hj
               rw [Lib.cell_of_heap e3]; rfl
    | 3, hj => obtain rfl : [108, 97, 98, 59, 98, 101, 97, 109, 101, 114] = s := by simpa [awRow] using hj
               rw [Lib.cell_of_heap e3]; rfl
    | 4, hj => obtain rfl : [77, 111, 32, 49, 45, 50] = s := by simpa [awRow] using hj
               rw [Lib.cell_of_heap e3]; rfl
    | j + 5, hj => simp [awRow] at hj
  | j + 1, hj => simp at hj
set_option maxHeartbeats 16000000 in
set_option maxRecDepth 100000 in
theorem awake7_any (w : World) (hE : Env7 w) : Calls Tryz.prog 7 #[] w (Says (.bool true) w) := by
  obtain ⟨w2, hw2, hrows, hb2, hs2⟩ := aw_rows w
  have cP := plain_any (some ⟨w.heap.size + 1, 0, none⟩) [awRow] 1 (w.heap.size + 2) w2 (by omega) hrows (by decide) (by decide) (by decide)
  have CP := hid cP
  have HB2 := hid hb2
  clear cP hb2 hrows
  unfold Says
  go_enter Tryz.func7, Tryz.ntmps7
  go_wp2_with fail
  (try rw [← hw2])
  refine CP.out.mono ?_
  rintro e w3 ⟨⟨v, rfl, hrr⟩, hb3⟩
  obtain ⟨A3, c3, rfl, hl3, hc3, hrin⟩ := hrr.recsIn
  have hB3 : Below w.heap.size w w3 := HB2.out.trans (hb3.mono HB2.out.size)
  have cR := read7_any 5 8 480 45 4 A3 (plainM [awRow]) c3 w3 (hrin.mono (fun k hk => hk.2)) (by rw [plainM_len]; decide) awSize (hE.below hB3 (Nat.le_refl _))
  rw [awRead, plainM_len] at cR
  rw [plainM_len]
  unfold ReadOut at cR
  have CR := hid cR
  have HB3 := hid hB3
  clear cR CP hw2 hB3 hb3 hrr hrin hl3 hE HB2
  go_wp2_with fail
  refine CR.out.mono ?_
  rintro e w4 ⟨v1, v2, rfl, hrm, hpr, hb4⟩
  obtain ⟨A4, c4, rfl, hl4, hc4, hin4⟩ := hrm.roomsIn
  obtain ⟨b, off, q, rfl, hPb, hrq, hcells⟩ := hin4.at_ (k := 0) (by decide)
  have hv2 : ∃ A5 c5, v2 = .slice A5 0 c5 := by
    rcases hpr.2 with ⟨hv, _⟩ | ⟨g, cap, cur, hv, _⟩
    · exact ⟨_, _, hv⟩
    · exact ⟨_, _, hv⟩
  obtain ⟨A5, c5, rfl⟩ := hv2
  simp only [List.getElem_cons_zero] at hrq hcells
  obtain ⟨b1, o1, hA1, hb1, f0⟩ := hrq.f.at_ (k := 0) (by decide)
  obtain ⟨b2, o2, hA2, hb2, t0, t1, t2, t3⟩ := hrq.t.at_ (k := 0) (by decide)
  obtain ⟨qa1, qc1, qa2, qc2⟩ := q
  dsimp only at hA1 hA2
  subst hA1
  subst hA2
  have hB4 : Below w.heap.size w w4 := HB3.out.trans (hb4.mono HB3.out.size)
  have hbl : b < w4.heap.size := by rcases hPb with h | h <;> exact h.2
  have hro : RoomIn w4 (fun k => k < w4.heap.size) ([82, 49], [66], 30, [[98, 101, 97, 109, 101, 114], [108, 97, 98]], [(15, 0, 0, 2)]) ⟨some ⟨b1, o1, none⟩, qc1, some ⟨b2, o2, none⟩, qc2⟩ := hrq.mono (fun k hk => by rcases hk with h | h <;> exact h.2)
  obtain ⟨x0, x1, x2, x3, x4⟩ := hcells
  have hf1 := hrq.f1
  have ht1 := hrq.t1
  simp only [List.length_cons, List.length_nil, Nat.zero_mul, Nat.add_zero, Nat.zero_add, List.getElem_cons_zero] at x0 x1 x2 x3 x4 f0 t0 t1 t2 t3 hf1 ht1 hl4
  have HO0 := (fun w' h => open_any ([82, 49], [66], 30, [[98, 101, 97, 109, 101, 114], [108, 97, 98]], [(15, 0, 0, 2)]) ⟨some ⟨b1, o1, none⟩, qc1, some ⟨b2, o2, none⟩, qc2⟩ (15, 0, 0, 2) (by decide) w' h)
  have x0' : w4.cell? ⟨b, off, none⟩ = some (.string ⟨#[82, 49]⟩) := x0
  have x1' : w4.cell? ⟨b, off + 1, none⟩ = some (.string ⟨#[66]⟩) := x1
  have x3' : w4.cell? ⟨b, off + 3, none⟩ = some (.slice (some ⟨b1, o1, none⟩) 2 qc1) := x3
  have f0' : w4.cell? ⟨b1, o1, none⟩ = some (.string ⟨#[98, 101, 97, 109, 101, 114]⟩) := f0
  have hf1' : 2 ≤ qc1 := hf1
  have HO : Hid (∀ w', RoomIn w' (fun k => k < w'.heap.size) ([82, 49], [66], 30, [[98, 101, 97, 109, 101, 114], [108, 97, 98]], [(15, 0, 0, 2)]) ⟨some ⟨b1, o1, none⟩, qc1, some ⟨b2, o2, none⟩, qc2⟩ → Calls Tryz.prog 20 #[.agg #[.string ⟨#[82, 49]⟩, .string ⟨#[66]⟩, .int .i64 30, .slice (some ⟨b1, o1, none⟩) 2 qc1, .slice (some ⟨b2, o2, none⟩) 1 qc2], .agg #[.int .i64 15, .int .i64 0, .int .i64 0, .int .i64 2]] w' (fun e w'' => e = .returned (.bool false) ∧ Below w'.heap.size w' w'')) := hid fun w' h => by
    have := HO0 w' h
    unfold Says at this
    rw [awOpen] at this
    exact this
  have HRO := hid hro
  have HB4 := hid hB4
  clear hrm hpr hb4 hin4 hPb hrq hro hB4 CR HB3 x0 x1 x3 f0 hf1 HO0
  have hb1l : b1 < w4.heap.size := by rcases hb1 with h | h <;> exact h.2
  have hb2l : b2 < w4.heap.size := by rcases hb2 with h | h <;> exact h.2
  have AW5 := fun (w5 : World) (hb5 : Below w4.drew.heap.size w4.drew w5) => And.intro ((hb5.cell (p := ⟨b, off, none⟩) hbl).trans x0') (And.intro ((hb5.cell (p := ⟨b, off + 1, none⟩) hbl).trans x1') (And.intro ((hb5.cell (p := ⟨b, off + 2, none⟩) hbl).trans x2) (And.intro ((hb5.cell (p := ⟨b, off + 3, none⟩) hbl).trans x3') (And.intro ((hb5.cell (p := ⟨b, off + 4, none⟩) hbl).trans x4) (And.intro ((hb5.cell (p := ⟨b1, o1, none⟩) hb1l).trans f0') (And.intro ((hb5.cell (p := ⟨b2, o2, none⟩) hb2l).trans t0) (And.intro ((hb5.cell (p := ⟨b2, o2 + 1, none⟩) hb2l).trans t1) (And.intro ((hb5.cell (p := ⟨b2, o2 + 2, none⟩) hb2l).trans t2) ((hb5.cell (p := ⟨b2, o2 + 3, none⟩) hb2l).trans t3)))))))))
  have HAW := hid AW5
  clear AW5
  go_wp2_with fail
  go_region_held3 (fun w' => w'.cell? ⟨b, off, none⟩ = some (.string ⟨#[82, 49]⟩) ∧ w'.cell? ⟨b, off + 1, none⟩ = some (.string ⟨#[66]⟩) ∧ w'.cell? ⟨b, off + 2, none⟩ = some (.int .i64 30) ∧ w'.cell? ⟨b, off + 3, none⟩ = some (.slice (some ⟨b1, o1, none⟩) 2 qc1) ∧ w'.cell? ⟨b, off + 4, none⟩ = some (.slice (some ⟨b2, o2, none⟩) 1 qc2)
      ∧ w'.cell? ⟨b1, o1, none⟩ = some (.string ⟨#[98, 101, 97, 109, 101, 114]⟩) ∧ w'.cell? ⟨b2, o2, none⟩ = some (.int .i64 15) ∧ w'.cell? ⟨b2, o2 + 1, none⟩ = some (.int .i64 0) ∧ w'.cell? ⟨b2, o2 + 2, none⟩ = some (.int .i64 0) ∧ w'.cell? ⟨b2, o2 + 3, none⟩ = some (.int .i64 2))
    (first | exact ⟨x0', x1', x2, x3', x4, f0', t0, t1, t2, t3⟩ | exact ⟨hk5.1, hk5.2.1, hk5.2.2.1, hk5.2.2.2.1, hk5.2.2.2.2.1, hk5.2.2.2.2.2.1, hk5.2.2.2.2.2.2.1, hk5.2.2.2.2.2.2.2.1, hk5.2.2.2.2.2.2.2.2.1, hk5.2.2.2.2.2.2.2.2.2⟩)
    (first | (go_at_call 20; refine (HO.out w4.drew (HRO.out.kept (fun _ _ => rfl))).mono ?_; rintro e w5 ⟨rfl, hb5⟩; have hk5 := HAW.out w5 hb5))
  all_goals
    go_wp2_with fail
    go_ret
    exact ⟨rfl, HB4.out.trans ((((Below.refl _ w4).drew).trans hb5).mono HB4.out.size)⟩
end Go.Proofs.YteckefolakjafaaGreatDoor

set_option linter.unusedVariables false
set_option maxRecDepth 100000
namespace Go.Proofs.YteckefolakjafaaGreatDoor
open Go Go.Proofs Go.ChangeShapes Go.WideShapes Go.ChangeAt Go.RowKit Go.Lib Go.Deep

section
variable {H : Type} {enc : TypeId × Value → H} {W : World}
/-- A slice of elements that read as said. -/
theorem open_list {T e : TypeId} {z : Nat} (ht : Tryz.prog.underlying T = some (.slice e)) (hz : Tryz.prog.cellsOf e = z) (hz0 : 0 < z) {α : Type} [Inhabited α] (cells : α → List Value) (Ok : α → DataW H → Prop) (hcl : ∀ a, (cells a).length = z)
    (each : ∀ n cs x, DataW.trod enc Tryz.prog W 0 (fun _ => true) true n e cs = some x → ∃ a, cs = cells a ∧ Ok a x.1) {fuel : Nat} {v : Value} {x : DataW H × List MemPlace} (hf : DataW.trod enc Tryz.prog W 0 (fun _ => true) true fuel T [v] = some x) :
    ∃ (A : Option Addr) (l : List α) (c : Nat), v = .slice A l.length c ∧ l.length ≤ c ∧ c ≤ maxLen ∧
      (l = [] ∨ ∃ b off, A = some ⟨b, off, none⟩ ∧ b < W.heap.size ∧ ∀ (j : Nat) (a : α), l[j]? = some a → ∀ (i : Nat) (u : Value), (cells a)[i]? = some u → W.cell? ⟨b, off + j * z + i, none⟩ = some u) ∧
      ∃ ds rest : List (DataW H), (x.1 = .slice ds rest ∨ (x.1 = .nil ∧ ds = [])) ∧ ds.length = l.length ∧ ∀ (j : Nat) (a : α), l[j]? = some a → ∃ d, ds[j]? = some d ∧ Ok a d := by
  rcases open_slice ht hf with ⟨hcs, rfl⟩ | ⟨a, len, cap, m, n, D, Pl, hcs, _, hl, hm, hmm, rfl, hx⟩
  · simp at hcs
    subst hcs
    exact ⟨none, [], 0, rfl, Nat.le_refl _, by unfold maxLen; omega, .inl rfl, [], [], .inr ⟨rfl, rfl⟩, rfl, fun j a h => by simp at h⟩
  · simp at hcs
    subst hcs
    have hmc : m = cap := by simpa using hmm
    rw [hz] at hx
    obtain ⟨F, hF⟩ := choose_lt (α := α) (p := fun i y => W.cells? 0 (a.add (i * z)) z = some (cells y) ∧ Ok y (D i)) (n := m) (fun i hi => by
      obtain ⟨cs', h1, h2⟩ := hx i hi
      obtain ⟨y, rfl, h3⟩ := each _ _ _ h2
      exact ⟨y, h1, h3⟩)
    refine ⟨some a, (List.range len).map F, cap, by simp, by simpa using hl, hm, ?_, (List.range len).map D, _, .inl rfl, by simp, fun j y hj => ?_⟩
    · rcases Nat.eq_zero_or_pos len with h0 | h0
      · subst h0; exact .inl rfl
      · right
        have hc : ∀ i, i < m → ∀ k, k < z → W.cell? ((a.add (i * z)).add k) = (cells (F i))[k]? := fun i hi k hk => (World.cells?_some (hF i hi).1).2.2 k hk
        have h00 := hc 0 (by omega) 0 hz0
        rw [List.getElem?_eq_getElem (by rw [hcl]; exact hz0)] at h00
        obtain ⟨b, off, spot⟩ := a
        have hspot : spot = none := by simpa [Addr.add] using World.cell?_spot h00
        subst hspot
        have hadd : ∀ i k : Nat, ((⟨b, off, none⟩ : Addr).add i).add k = ⟨b, off + i + k, none⟩ := fun i k => by rw [Go.WideShapes.add_plain, Go.WideShapes.add_plain]
        rw [hadd] at h00
        refine ⟨b, off, rfl, World.block_lt_of_cell? W _ h00, fun j y hj i u hu => ?_⟩
        rw [List.getElem?_map] at hj
        obtain ⟨j', hj', rfl⟩ := Option.map_eq_some_iff.1 hj
        have hjl : j < len := by
          have := (List.getElem?_eq_some_iff.1 hj').1
          simpa using this
        rw [List.getElem?_range hjl] at hj'
        obtain rfl := Option.some.inj hj'
        have hi : i < z := by
          have := (List.getElem?_eq_some_iff.1 hu).1
          rw [hcl] at this
          exact this
        have := hc j (by omega) i hi
        rw [hadd] at this
        rw [this]
        exact hu
    · rw [List.getElem?_map] at hj
      obtain ⟨j', hj', rfl⟩ := Option.map_eq_some_iff.1 hj
      have hjl : j < len := by
        have := (List.getElem?_eq_some_iff.1 hj').1
        simpa using this
      rw [List.getElem?_range hjl] at hj'
      obtain rfl := Option.some.inj hj'
      exact ⟨D j, by rw [List.getElem?_map, List.getElem?_range hjl]; rfl, (hF j (by omega)).2⟩
end
end Go.Proofs.YteckefolakjafaaGreatDoor

set_option linter.unusedVariables false
set_option maxRecDepth 100000
namespace Go.Proofs.YteckefolakjafaaGreatDoor
open Go Go.Proofs Go.ChangeShapes Go.WideShapes Go.ChangeAt Go.RowKit Go.Lib Go.Deep

theorem cs3 : Tryz.prog.cellsOf 3 = 1 := by kernel_rfl
theorem cs4 : Tryz.prog.cellsOf 4 = 1 := by kernel_rfl
theorem cs9 : Tryz.prog.cellsOf 9 = 1 := by kernel_rfl
theorem csStrs : Tryz.prog.cellsOf 43 = 1 := by kernel_rfl
theorem csTimes : Tryz.prog.cellsOf 44 = 1 := by kernel_rfl
theorem csFields : Tryz.prog.cellsOf 34 = 1 := by kernel_rfl
theorem csTime : Tryz.prog.cellsOf 55 = 4 := by kernel_rfl
theorem csField : Tryz.prog.cellsOf 81 = 3 := by kernel_rfl
theorem csRec : Tryz.prog.cellsOf 36 = 2 := by kernel_rfl
theorem csRoom : Tryz.prog.cellsOf 46 = 5 := by kernel_rfl
instance : Inhabited Room5 := ⟨⟨none, 0, none, 0⟩⟩
section
variable {H : Type} {enc : TypeId × Value → H} {W : World}
theorem tk1 {cs : List Value} {k : Nat} {v : Value} (h : (cs.drop k).take 1 = [v]) : cs[k]? = some v := by
  have := congrArg (·[0]?) h
  simpa [List.getElem?_take, List.getElem?_drop] using this
theorem tk1' {cs : List Value} {k : Nat} (h : k < cs.length) : ∃ v, (cs.drop k).take 1 = [v] := by
  refine ⟨cs[k], ?_⟩
  rw [List.drop_eq_getElem_cons h]
  rfl
theorem i64_hi {z : Int} (h : (Lit.int IntKind.i64 z).wf = true) : z ≤ 9223372036854775807 := (bounds_i64 h).2
theorem four4 {cs : List Value} {a b c d : Value} (hl : cs.length = 4) (h0 : cs[0]? = some a) (h1 : cs[1]? = some b) (h2 : cs[2]? = some c) (h3 : cs[3]? = some d) : cs = [a, b, c, d] := by
  match cs, hl with
  | [c0, c1, c2, c3], _ => simp at h0 h1 h2 h3; simp [h0, h1, h2, h3]
theorem three3 {cs : List Value} {a b c : Value} (hl : cs.length = 3) (h0 : cs[0]? = some a) (h1 : cs[1]? = some b) (h2 : cs[2]? = some c) : cs = [a, b, c] := by
  match cs, hl with
  | [c0, c1, c2], _ => simp at h0 h1 h2; simp [h0, h1, h2]
theorem two2 {cs : List Value} {a b : Value} (hl : cs.length = 2) (h0 : cs[0]? = some a) (h1 : cs[1]? = some b) : cs = [a, b] := by
  match cs, hl with
  | [c0, c1], _ => simp at h0 h1; simp [h0, h1]
theorem five5 {cs : List Value} {a b c d e : Value} (hl : cs.length = 5) (h0 : cs[0]? = some a) (h1 : cs[1]? = some b) (h2 : cs[2]? = some c) (h3 : cs[3]? = some d) (h4 : cs[4]? = some e) : cs = [a, b, c, d, e] := by
  match cs, hl with
  | [c0, c1, c2, c3, c4], _ => simp at h0 h1 h2 h3 h4; simp [h0, h1, h2, h3, h4]
theorem trod_struct5 {t : TypeId} {f0 f1 f2 f3 f4 : Field} {fuel : Nat} {cs : List Value} {x : DataW H × List MemPlace} {spare : Nat → Bool} {held : Bool} {base : Nat} (ht : Tryz.prog.underlying t = some (.struct #[f0, f1, f2, f3, f4])) (h : DataW.trod enc Tryz.prog W base spare held fuel t cs = some x) :
    ∃ y0 y1 y2 y3 y4 n, x = (.agg [y0.1, y1.1, y2.1, y3.1, y4.1], y0.2 ++ (y1.2 ++ (y2.2 ++ (y3.2 ++ y4.2)))) ∧ cs.length = Tryz.prog.cellsOf t ∧ DataW.trod enc Tryz.prog W base spare held n f0.type ((cs.drop f0.offset).take (Tryz.prog.cellsOf f0.type)) = some y0 ∧
      DataW.trod enc Tryz.prog W base spare held n f1.type ((cs.drop f1.offset).take (Tryz.prog.cellsOf f1.type)) = some y1 ∧ DataW.trod enc Tryz.prog W base spare held n f2.type ((cs.drop f2.offset).take (Tryz.prog.cellsOf f2.type)) = some y2 ∧
      DataW.trod enc Tryz.prog W base spare held n f3.type ((cs.drop f3.offset).take (Tryz.prog.cellsOf f3.type)) = some y3 ∧ DataW.trod enc Tryz.prog W base spare held n f4.type ((cs.drop f4.offset).take (Tryz.prog.cellsOf f4.type)) = some y4 := by
  obtain ⟨xs, n, _, rfl, hl, hlen, hf⟩ := DataW.trod_struct ht h
  match xs, hlen with
  | [y0, y1, y2, y3, y4], _ => exact ⟨y0, y1, y2, y3, y4, n, by simp, hl, by simpa using hf 0 f0 rfl, by simpa using hf 1 f1 rfl, by simpa using hf 2 f2 rfl, by simpa using hf 3 f3 rfl, by simpa using hf 4 f4 rfl⟩
/-- A slice of strings. -/
theorem open_strs7 {fuel : Nat} {v : Value} {x : DataW H × List MemPlace} (hf : DataW.trod enc Tryz.prog W 0 (fun _ => true) true fuel 43 [v] = some x) :
    ∃ (A : Option Addr) (l : List Str) (c : Nat), v = .slice A l.length c ∧ l.length ≤ c ∧ c ≤ maxLen ∧ S3.StrsIn W (fun b => b < W.heap.size) A l := by
  obtain ⟨A, l, c, hv, h1, h2, hc, _⟩ := open_list (T := 43) (e := 9) Tryz.underlying43 cs9 (by omega) (fun s : Str => [Value.string (ba s)]) (fun _ _ => True) (fun _ => rfl) (fun n cs x h => by
    obtain ⟨s, rfl, _, _⟩ := DataW.trod_string Tryz.underlying9 h
    exact ⟨s.data.toList, rfl, trivial⟩) hf
  refine ⟨A, l, c, hv, h1, h2, ?_⟩
  rcases hc with h | ⟨b, off, hA, hb, hc⟩
  · exact .inl h
  · refine .inr ⟨b, off, hA, hb, fun j s hj => ?_⟩
    have h := hc j s hj 0 _ rfl
    rw [show off + j * 1 + 0 = off + j by omega] at h
    exact h
/-- A slice of times. -/
theorem open_times7 {fuel : Nat} {v : Value} {x : DataW H × List MemPlace} (hf : DataW.trod enc Tryz.prog W 0 (fun _ => true) true fuel 44 [v] = some x) :
    ∃ (A : Option Addr) (l : List TimeD) (c : Nat), v = .slice A l.length c ∧ l.length ≤ c ∧ c ≤ maxLen ∧ TimesIn W (fun b => b < W.heap.size) A l := by
  obtain ⟨A, l, c, hv, h1, h2, hc, ds, rest, _, _, hd⟩ := open_list (T := 44) (e := 55) Tryz.underlying44 csTime (by omega) timeVs (fun t _ => t.2.2.1 ≤ 9223372036854775807) (fun _ => rfl) (fun n cs x h => by
    obtain ⟨y0, y1, y2, y3, n, hx, hl, h0, h1, h2, h3⟩ := Joins.trod_struct4 Tryz.underlying55 h
    rw [csTime] at hl
    dsimp only at h0 h1 h2 h3
    rw [cs3] at h0 h1 h2 h3
    obtain ⟨z0, hc0, _, _⟩ := DataW.trod_int Tryz.underlying3 h0
    obtain ⟨z1, hc1, _, _⟩ := DataW.trod_int Tryz.underlying3 h1
    obtain ⟨z2, hc2, _, b2⟩ := DataW.trod_int Tryz.underlying3 h2
    obtain ⟨z3, hc3, _, _⟩ := DataW.trod_int Tryz.underlying3 h3
    exact ⟨(z0, z1, z2, z3), four4 hl (tk1 hc0) (tk1 hc1) (tk1 hc2) (tk1 hc3), i64_hi b2⟩) hf
  refine ⟨A, l, c, hv, h1, h2, fun t ht => ?_, hc⟩
  obtain ⟨j, hj, rfl⟩ := List.mem_iff_getElem.1 ht
  obtain ⟨d, _, h⟩ := hd j _ (List.getElem?_eq_getElem hj)
  exact h
/-- A slice of fields, and what their texts weigh. -/
theorem open_fields7 {fuel : Nat} {v : Value} {x : DataW H × List MemPlace} (hf : DataW.trod enc Tryz.prog W 0 (fun _ => true) true fuel 34 [v] = some x) :
    ∃ (A : Option Addr) (l : List FieldD) (c : Nat), v = .slice A l.length c ∧ l.length ≤ c ∧ c ≤ maxLen ∧ FieldsIn W (fun b => b < W.heap.size) A l ∧
      ∃ ds rest : List (DataW H), (x.1 = .slice ds rest ∨ (x.1 = .nil ∧ ds = [])) ∧ ds.length = l.length ∧ ∀ (j : Nat) (f : FieldD), l[j]? = some f → ∃ d, ds[j]? = some d ∧ ∃ d1 d2, d = .agg [.lit (.string f.1), d1, d2] := by
  obtain ⟨A, l, c, hv, h1, h2, hc, hd⟩ := open_list (T := 34) (e := 81) Tryz.underlying34 csField (by omega) fieldVs (fun (f : FieldD) (d : DataW H) => ∃ d1 d2, d = .agg [.lit (.string f.1), d1, d2]) (fun _ => rfl) (fun n cs x h => by
    obtain ⟨y0, y1, y2, n, rfl, hl, h0, h1, h2⟩ := trod_struct3 Tryz.underlying81 h
    rw [csField] at hl
    dsimp only at h0 h1 h2
    rw [cs9] at h0
    rw [cs3] at h1
    rw [cs4] at h2
    obtain ⟨s, hc0, rfl, _⟩ := DataW.trod_string Tryz.underlying9 h0
    obtain ⟨z1, hc1, _, _⟩ := DataW.trod_int Tryz.underlying3 h1
    obtain ⟨b2, hc2, _⟩ := DataW.trod_bool Tryz.underlying4 h2
    exact ⟨(s.data.toList, z1, b2), three3 hl (tk1 hc0) (tk1 hc1) (tk1 hc2), _, _, rfl⟩) hf
  exact ⟨A, l, c, hv, h1, h2, hc, hd⟩
/-- A slice of rooms. -/
theorem open_rooms7 {base : Nat} {v : Value} {d : DataW H} {p : List MemPlace} (hv : Value.okWide Tryz.prog W .any base 22 v) (h : DataW.Trod enc Tryz.prog W 0 (fun _ => true) true 22 v d p) :
    ∃ (A : Option Addr) (l : List RoomD) (c : Nat), v = .slice A l.length c ∧ l.length ≤ c ∧ c ≤ maxLen ∧ RoomsIn W (fun b => b < W.heap.size) A l := by
  obtain ⟨a0, len, cap, rfl⟩ := okWide_slice Tryz.underlying22 hv
  obtain ⟨fuel, hf⟩ := h
  obtain ⟨A, l, c, hv, h1, h2, hc, ds, rest, _, _, hd⟩ := open_list (T := 22) (e := 46) Tryz.underlying22 csRoom (by omega) (fun r : RoomD × Room5 => roomVs r.1 r.2) (fun r _ => RoomIn W (fun b => b < W.heap.size) r.1 r.2) (fun _ => rfl) (fun n cs x h => by
    obtain ⟨y0, y1, y2, y3, y4, n, rfl, hl, h0, h1, h2, h3, h4⟩ := trod_struct5 Tryz.underlying46 h
    rw [csRoom] at hl
    dsimp only at h0 h1 h2 h3 h4
    rw [cs9] at h0 h1
    rw [cs3] at h2
    rw [csStrs] at h3
    rw [csTimes] at h4
    obtain ⟨s0, hc0, _, _⟩ := DataW.trod_string Tryz.underlying9 h0
    obtain ⟨s1, hc1, _, _⟩ := DataW.trod_string Tryz.underlying9 h1
    obtain ⟨z2, hc2, _, _⟩ := DataW.trod_int Tryz.underlying3 h2
    obtain ⟨v3, hc3⟩ := tk1' (cs := cs) (k := 3) (by omega)
    obtain ⟨v4, hc4⟩ := tk1' (cs := cs) (k := 4) (by omega)
    rw [hc3] at h3
    rw [hc4] at h4
    obtain ⟨A1, l1, c1, rfl, q1, q2, q3⟩ := open_strs7 h3
    obtain ⟨A2, l2, c2, rfl, r1, r2, r3⟩ := open_times7 h4
    refine ⟨((s0.data.toList, s1.data.toList, z2, l1, l2), ⟨A1, c1, A2, c2⟩), five5 hl (tk1 hc0) (tk1 hc1) (tk1 hc2) (tk1 hc3) (tk1 hc4), q3, r3, q1, ?_, r1, ?_⟩
    · unfold maxLen at q2; show c1 ≤ _; omega
    · unfold maxLen at r2; show c2 ≤ _; omega) (v := .slice a0 len cap) (x := (d, p)) hf
  refine ⟨A, l.map (·.1), c, by rw [List.length_map]; exact hv, by rw [List.length_map]; exact h1, h2, ?_⟩
  rcases hc with h | ⟨b, off, hA, hb, hc⟩
  · exact .inl (by rw [h]; rfl)
  · refine .inr ⟨b, off, hA, hb, fun j r hj => ?_⟩
    rw [List.getElem?_map] at hj
    obtain ⟨y, hy, rfl⟩ := Option.map_eq_some_iff.1 hj
    obtain ⟨d', _, hok⟩ := hd j y hy
    exact ⟨y.2, hok, hc j y hy⟩
theorem bulk_all : ∀ (ds : List (DataW H)) (j : Nat) (d : DataW H), ds[j]? = some d → Rows.uptoBulk d ≤ Rows.uptoBulkAll ds
  | [], j, d, h => by simp at h
  | a :: r, 0, d, h => by
    simp at h
    subst h
    simp only [Rows.uptoBulkAll]
    omega
  | a :: r, j + 1, d, h => by
    have := bulk_all r j d (by simpa using h)
    simp only [Rows.uptoBulkAll]
    omega
theorem bulk_pos (d : DataW H) : 1 ≤ Rows.uptoBulk d := by
  cases d with
  | lit l => cases l <;> simp [Rows.uptoBulk]
  | _ => simp [Rows.uptoBulk]
theorem bulk_len : ∀ ds : List (DataW H), ds.length ≤ Rows.uptoBulkAll ds
  | [] => by simp
  | d :: r => by
    have := bulk_len r
    have := bulk_pos d
    simp only [Rows.uptoBulkAll, List.length_cons]
    omega
/-- A slice of records; their texts, and how many they are, against the bulk. -/
theorem open_recs7 {base : Nat} {v : Value} {d : DataW H} {p : List MemPlace} (hv : Value.okWide Tryz.prog W .any base 33 v) (h : DataW.Trod enc Tryz.prog W 0 (fun _ => true) true 33 v d p) :
    ∃ (A : Option Addr) (l : List RecD) (c : Nat), v = .slice A l.length c ∧ l.length ≤ c ∧ c ≤ maxLen ∧ RecsIn W (fun b => b < W.heap.size) A l ∧ l.length ≤ Rows.uptoBulk d ∧ ∀ r ∈ l, ∀ f ∈ r.2, f.1.length ≤ Rows.uptoBulk d := by
  obtain ⟨a0, len, cap, rfl⟩ := okWide_slice Tryz.underlying33 hv
  obtain ⟨fuel, hf⟩ := h
  obtain ⟨A, l, c, hv, h1, h2, hc, ds, rest, hds, hdl, hd⟩ := open_list (T := 33) (e := 36) Tryz.underlying33 csRec (by omega) (fun r : RecD × (Option Addr × Nat) => [Value.int .i64 r.1.1, Value.slice r.2.1 r.1.2.length r.2.2])
    (fun r (d : DataW H) => (FieldsIn W (fun b => b < W.heap.size) r.2.1 r.1.2 ∧ r.1.2.length ≤ r.2.2 ∧ r.2.2 ≤ 9223372036854775807) ∧ ∀ f ∈ r.1.2, f.1.length ≤ Rows.uptoBulk d) (fun _ => rfl) (fun n cs x h => by
    obtain ⟨y0, y1, n, rfl, hl, h0, h1⟩ := trod_struct2 Tryz.underlying36 h
    rw [csRec] at hl
    dsimp only at h0 h1
    rw [cs3] at h0
    rw [csFields] at h1
    obtain ⟨z0, hc0, _, _⟩ := DataW.trod_int Tryz.underlying3 h0
    obtain ⟨v1, hc1⟩ := tk1' (cs := cs) (k := 1) (by omega)
    rw [hc1] at h1
    obtain ⟨A1, l1, c1, rfl, q1, q2, q3, ds, rest, hds, hdl, hd⟩ := open_fields7 h1
    refine ⟨((z0, l1), (A1, c1)), two2 hl (tk1 hc0) (tk1 hc1), ⟨q3, q1, ?_⟩, fun f hf => ?_⟩
    · unfold maxLen at q2; show c1 ≤ _; omega
    · obtain ⟨j, hj, rfl⟩ := List.mem_iff_getElem.1 hf
      obtain ⟨d, hj', d1, d2, rfl⟩ := hd j _ (List.getElem?_eq_getElem hj)
      have h3 := bulk_all _ j _ hj'
      rcases hds with e | ⟨_, rfl⟩
      · rw [e]
        simp only [Rows.uptoBulk, Rows.uptoBulkAll] at h3 ⊢
        omega
      · simp at hj') (v := .slice a0 len cap) (x := (d, p)) hf
  refine ⟨A, l.map (·.1), c, by rw [List.length_map]; exact hv, by rw [List.length_map]; exact h1, h2, ?_, ?_, ?_⟩
  · rcases hc with h | ⟨b, off, hA, hb, hc⟩
    · exact .inl (by rw [h]; rfl)
    · refine .inr ⟨b, off, hA, hb, fun j r hj => ?_⟩
      rw [List.getElem?_map] at hj
      obtain ⟨y, hy, rfl⟩ := Option.map_eq_some_iff.1 hj
      obtain ⟨d', _, ⟨g1, g2, g3⟩, _⟩ := hd j y hy
      exact ⟨y.2.1, y.2.2, g1, g2, g3, hc j y hy 0 _ rfl, hc j y hy 1 _ rfl⟩
  · rw [List.length_map, ← hdl]
    have := bulk_len ds
    rcases hds with e | ⟨_, rfl⟩
    · dsimp only at e
      rw [e]
      simp only [Rows.uptoBulk]
      omega
    · simp
  · intro r hr f hf
    obtain ⟨y, hy, rfl⟩ := List.mem_map.1 hr
    obtain ⟨j, hj, rfl⟩ := List.mem_iff_getElem.1 hy
    obtain ⟨d', hj', _, hb⟩ := hd j _ (List.getElem?_eq_getElem hj)
    have h3 := bulk_all _ j _ hj'
    have h4 := hb f hf
    rcases hds with e | ⟨_, rfl⟩
    · dsimp only at e
      rw [e]
      simp only [Rows.uptoBulk]
      omega
    · simp at hj'
end
end Go.Proofs.YteckefolakjafaaGreatDoor

