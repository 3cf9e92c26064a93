/-
  The program's Read of stafffile. Conditions: the variables hold what their text lays; the records lie in memory, their fields below 2^32 bytes.
-/
import Derived.Test.YtigdcgklpapfbaaGreatDoorVR38
set_option linter.unusedVariables false
namespace Go.Proofs.YtigdcgklpapfbaaGreatDoor.S10
open Go Go.Proofs Go.RowKit Go.Lib Go.Proofs.YtigdcgklpapfbaaGreatDoor

/-- What reading rooms leaves behind. -/
def ReadOut (o : List ClassD × List ProbD) (w : World) (e : Ending) (w' : World) : Prop :=
  ∃ v1 v2, e = .returned (.tuple #[v1, v2]) ∧ ClassRow w' w.heap.size (fun k => w.heap.size ≤ k ∧ k < w'.heap.size) v1 o.1 ∧ ProbsRow w' w.heap.size v2 o.2 ∧ Below w.heap.size w w'
/-- The boxes of the grid and the number. -/
structure KG (w0 : World) (d s b m n : Int) (w : World) : Prop where
  g : Box4 w w0.heap.size d s b m
  n : w.cell? ⟨w0.heap.size + 1, 0, none⟩ = some (.int .i64 n)
  z : w0.heap.size + 1 < w.heap.size
  b : Below w0.heap.size w0 w
theorem KG.next {w0 w w' : World} {d s b m n : Int} {C : Nat} (h : KG w0 d s b m n w) (k : Below C w w') (hC : w0.heap.size + 1 < C) : KG w0 d s b m n w' :=
  ⟨h.g.next k (by omega), (k.cell (p := ⟨w0.heap.size + 1, 0, none⟩) hC).trans h.n, Nat.lt_of_lt_of_le h.z k.size, h.b.trans (k.mono (by omega))⟩
theorem KG.first (w : World) (d s b m n : Int) (T : TypeId) (o : Obj) (ho : o = .cells #[.int .i64 n] 3) : KG w d s b m n ((w.alloc (.cells #[.int .i64 d, .int .i64 s, .int .i64 b, .int .i64 m] T)).alloc o) := by
  subst ho
  have h1 := Box4.new w d s b m T
  have hb1 := (Below.refl w.heap.size w).alloc (Nat.le_refl _) (.cells #[.int .i64 d, .int .i64 s, .int .i64 b, .int .i64 m] T)
  have hs : (w.alloc (.cells #[.int .i64 d, .int .i64 s, .int .i64 b, .int .i64 m] T)).heap.size = w.heap.size + 1 := by simp
  generalize w.alloc (.cells #[.int .i64 d, .int .i64 s, .int .i64 b, .int .i64 m] T) = w1 at h1 hb1 hs ⊢
  have hb3 := (Below.refl w1.heap.size w1).alloc (Nat.le_refl _) (.cells #[.int .i64 n] 3)
  have e3 := heap_alloc_new w1 (.cells #[.int .i64 n] 3)
  rw [hs] at e3
  refine ⟨h1.next hb3 (by omega), by rw [Lib.cell_of_heap e3]; rfl, by simp [hs], hb1.trans (hb3.mono (by omega))⟩
theorem TimeRow.low' {w : World} {e z n B B' : Nat} {v : Value} {xs : List Value} (h : w.ownsRow B e z v n xs) (hB : B' ≤ B) : w.ownsRow B' e z v n xs := by
  obtain ⟨h1, h2⟩ := h
  refine ⟨h1, ?_⟩
  rcases h2 with h2 | ⟨g, cap, cur, hv, hg, r⟩
  · exact .inl h2
  · exact .inr ⟨g, cap, cur, hv, Nat.le_trans hB hg, r⟩
theorem prob_new (w : World) (e : Int) : ProbsRow (w.alloc (.cells #[.int .i64 0, .int .i64 0, .int .i64 0, .int .i64 e] 89)) w.heap.size (.slice (some ⟨w.heap.size, 0, none⟩) 1 1) [(0, 0, e)] := by
  exact ⟨rfl, .inr ⟨w.heap.size, 1, _, rfl, Nat.le_refl _, heap_alloc_new w _, Nat.le_refl 1, by unfold maxLen; omega, rfl, rfl⟩⟩
set_option maxHeartbeats 16000000 in
set_option maxRecDepth 100000 in
theorem readA_any (d s b m n : Int) (A : Option Addr) (l : List RecD) (c : Nat) (w : World) (h : RecsIn w (fun k => k < w.heap.size) A l) (hl : l.length ≤ 1073741824)
    (hsz : ∀ x ∈ l, ∀ f ∈ x.2, f.1.length < 4294967281) (hE : Env7 w) :
    Calls Tryz.prog 19 #[.slice A l.length c, .agg #[.int .i64 d, .int .i64 s, .int .i64 b, .int .i64 m], .int .i64 n] w (ReadOut (readM d s b m n l) w) := by
  unfold ReadOut readM
  have hk := KG.first w d s b m n 24 _ rfl
  have hN0 : Box1 ((w.alloc (.cells #[.int .i64 d, .int .i64 s, .int .i64 b, .int .i64 m] 24)).alloc (.cells #[.int .i64 n] 3)) (w.heap.size + 1) 3 (.int .i64 n) := by
    have h := Box1.new (w.alloc (.cells #[.int .i64 d, .int .i64 s, .int .i64 b, .int .i64 m] 24)) 3 (.int .i64 n)
    simpa using h
  have HN0 := hid hN0
  clear hN0
  obtain ⟨g0, g1, g2, g3, _⟩ := hk.g
  have gn := hk.n
  have cF := fun w => rframe_any d s b m n w
  unfold Says at cF
  have HK := hid hk
  have HH := hid h
  have HE := hid hE
  have HSZ := hid hsz
  clear hk h hE hsz
  cases hf : frameB d s b m n with
  | false =>
    simp only [hf] at cF ⊢
    have CF := hid cF
    clear cF hf
    go_enter Tryz.func19, Tryz.ntmps19
    go_wp2_with fail
    refine (CF.out _).mono ?_
    rintro e w1 ⟨rfl, hb⟩
    have HB := hid hb
    clear hb
    go_wp2
    go_ret2
    have hz := HB.out.size
    simp at hz
    refine ⟨_, _, rfl, ⟨[], rfl, World.ownsRow_nil _ _ _ _, fun p hp => by simp at hp⟩, TimeRow.low' (prob_new w1 1) (by omega), ?_⟩
    exact (HK.out.b.trans (HB.out.mono (by simp; omega))).trans ((Below.refl _ w1).alloc (by omega) _)
  | true =>
    simp only [hf, if_true] at cF ⊢
    have CF := hid cF
    clear cF hf
    go_enter Tryz.func19, Tryz.ntmps19
    go_wp2_with fail
    refine (CF.out _).mono ?_
    rintro e w1 ⟨rfl, hb⟩
    have hk1 := HK.out.next hb (by simp)
    have HK1 := hid hk1
    have hz1 := HK1.out.z
    have HNB := hid (HN0.out.next hb)
    clear hb hk1
    obtain ⟨g0', g1', g2', g3', _⟩ := HK1.out.g
    go_wp2_with fail
    refine (distinct_any w1).mono ?_
    rintro e w2 ⟨KB, AB, MB, M, rfl, hD, hM, hM4, k1, k2, k3, hb2⟩
    have hgl := HK1.out.g.lt
    have hnb := HNB.out
    have hrec : RecsIn w2 (fun k => k < M) A l := (((HH.out.below HK1.out.b).kept (fun k hk => hb2.block k (by omega))).mono (fun k hk => by have : w.heap.size ≤ w1.heap.size := HK1.out.b.size; omega))
    have cE := entries_any d s b m n A l c M w.heap.size (w.heap.size + 1) KB AB MB w2 hM.lt hrec hl HSZ.out
      (fun W hW => HE.out.below (HK1.out.b.trans (hb2.mono (by omega) |>.trans (hW.mono (by omega)))) (Nat.le_refl _))
      ⟨HK1.out.g.next hb2 hgl, hnb.next hb2, hD, by omega, by omega, k1, k2, k3⟩ hM
    unfold EntsOut at cE
    have CE := hid cE
    have HB2 := hid hb2
    have HM4 := hid hM4
    have HML := hid hM.lt
    clear cE hrec hM hD hM4 k1 k2 k3 hb2 hnb hgl g0' g1' g2' g3'
    go_wp2_with fail
    refine CE.out.mono ?_
    rintro e w3 ⟨v1, v2, rfl, hi⟩
    have HI := hid hi
    clear hi
    go_wp2
    go_ret2
    obtain ⟨⟨Lr, hL, ho, hr⟩, hp, _, hb⟩ := HI.out
    have hw12 := HB2.out.size
    have hw1 := HK1.out.b.size
    have hn : (recsM d s b m n l).1.length = Lr.length := by rw [← hL, List.length_map]
    refine ⟨v1, v2, rfl, ⟨Lr, hL, ?_, fun p hp' => (hr p hp').mono (fun k hk => ⟨by omega, hk.2.1⟩)⟩, TimeRow.low' hp (by omega), ?_⟩
    · rw [hn]
      exact TimeRow.low' ho (by omega)
    · have h1 := HM4.out
      exact HK1.out.b.trans ((HB2.out.mono hw1).trans ((HI.out.below HML.out).mono (by omega)))
end Go.Proofs.YtigdcgklpapfbaaGreatDoor.S10
