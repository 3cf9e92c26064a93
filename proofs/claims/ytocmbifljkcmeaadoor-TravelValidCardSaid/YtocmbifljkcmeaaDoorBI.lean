/-
  What holds while ways are read out of records. Conditions: as stated.
  Ways out of records: Read of entries, at ways. Conditions: the records lie below the network's block; the library's variable holds an error.
-/
import Derived.Test.YtocmbifljkcmeaaDoorR8AE
import Derived.Test.YtocmbifljkcmeaaDoorR8S
set_option linter.unusedVariables false
namespace Go.Proofs.YtocmbifljkcmeaaDoor
open Go Go.Proofs Go.RowKit Go.Lib

structure EInv8 (M : Nat) (w : World) (rs : List WayD) (N : NetD) (ps : List ProbD) (v1 v2 n0 n1 : Value) (W : World) : Prop where
  row : WayRow W w.heap.size 51 v1 rs
  probs : ProbsRow W w.heap.size v2 ps
  net : NetIn W M w.heap.size N n0 n1
  apart : ∀ g, v1.ownBlock = some g → n0.ownBlock ≠ some g
  below : Below M w W
theorem EInv8.start {M : Nat} {w : World} (h : Box2 w M 66 (.slice none 0 0) (.slice none 0 0)) : EInv8 M w [] ([], []) [] (.slice none 0 0) (.slice none 0 0) (.slice none 0 0) (.slice none 0 0) w :=
  ⟨World.ownsRow_nil _ _ _ _, World.ownsRow_nil _ _ _ _, ⟨h, World.ownsRow_nil _ _ _ _, World.ownsRow_nil _ _ _ _⟩, fun g e => (by simp [Value.ownBlock] at e), Below.refl _ _⟩
section
variable {M : Nat} {w W W' : World} {rs : List WayD} {N N' : NetD} {ps : List ProbD} {v1 v2 n0 n1 : Value}
theorem own_ne {S : Nat → Prop} {B e z n : Nat} {v : Value} {xs : List Value} (h : W.ownsRow B e z v n xs) (k : W.grownBy W' none ∨ ∃ row, W.grownBy W' row ∧ ∀ g, v.ownBlock = some g → row ≠ some g) : W'.ownsRow B e z v n xs := by
  rcases k with k | ⟨row, k, hr⟩
  · exact World.ownsRow.kept h k (by cases hv : v.ownBlock with | none => exact .inl rfl | some g => exact .inr (fun e => by cases e))
  · refine World.ownsRow.kept h k ?_
    cases hv : v.ownBlock with
    | none => exact .inl rfl
    | some g => exact .inr (fun e => hr g hv e.symm)
theorem EInv8.under (h : EInv8 M w rs N ps v1 v2 n0 n1 W) (hM : M < w.heap.size) (hb : Below W.heap.size W W') : EInv8 M w rs N ps v1 v2 n0 n1 W' :=
  ⟨row_under h.row hb, row_under h.probs hb, ⟨h.net.box.next hb, row_under h.net.ways hb, row_under h.net.strs hb⟩, h.apart, h.below.trans (hb.mono (by have := h.net.box.lt; omega))⟩
/-- A way more in the network. -/
theorem EInv8.add {m0 m1 : Value} (h : EInv8 M w rs N ps v1 v2 n0 n1 W) (hM : M < w.heap.size) (hn : NetIn W' M w.heap.size N' m0 m1) (hp : Past (NetS M n0 n1) W W') (h0 : Moved W n0 m0) : EInv8 M w rs N' ps v1 v2 m0 m1 W' := by
  have hlo : ∀ {e z n : Nat} {v : Value} {xs : List Value}, W.ownsRow w.heap.size e z v n xs → ∀ g, v.ownBlock = some g → w.heap.size ≤ g ∧ g < W.heap.size := fun h => World.ownsRow.lt h
  refine ⟨row_past h.row hp (fun g e k => ?_), row_past h.probs hp (fun g e k => ?_), hn, fun g e k => ?_, ?_⟩
  · rcases k with k | k | k
    · have := hlo h.row g e; omega
    · exact h.apart g e k
    · exact kinds_ne8 h.row h.net.strs (by decide) g e k
  · rcases k with k | k | k
    · have := hlo h.probs g e; omega
    · exact kinds_ne8 h.probs h.net.ways (by decide) g e k
    · exact kinds_ne8 h.probs h.net.strs (by decide) g e k
  · rcases h0 with h0 | ⟨j, h0, hj⟩
    · exact h.apart g e (h0 ▸ k)
    · rw [h0] at k
      injection k with k
      have := hlo h.row g e
      omega
  · refine h.below.trans ⟨hp.os, hp.tape, hp.output, hp.size, fun k hk => hp.block k (by have := h.net.box.lt; omega) (fun e => ?_)⟩
    rcases e with e | e | e
    · omega
    · have := hlo h.net.ways k e; omega
    · have := hlo h.net.strs k e; omega
/-- One problem more. -/
theorem EInv8.prob {v2' : Value} {p : ProbD} (h : EInv8 M w rs N ps v1 v2 n0 n1 W) (hM : M < w.heap.size) (hown : ProbsRow W' w.heap.size v2' (ps ++ [p])) (hg : W.grownBy W' v2.ownBlock) : EInv8 M w rs N (ps ++ [p]) v1 v2' n0 n1 W' := by
  have hlo : ∀ g, v2.ownBlock = some g → w.heap.size ≤ g := fun g e => (World.ownsRow.lt h.probs g e).1
  refine ⟨own_ne (S := fun _ => True) h.row (.inr ⟨_, hg, fun g e => kinds_ne8 h.row h.probs (by decide) g e⟩), hown, ⟨h.net.box.kept (hg.block M h.net.box.lt (fun e => by have := hlo M e.symm; omega)), own_ne (S := fun _ => True) h.net.ways (.inr ⟨_, hg, fun g e => kinds_ne8 h.net.ways h.probs (by decide) g e⟩), own_ne (S := fun _ => True) h.net.strs (.inr ⟨_, hg, fun g e => kinds_ne8 h.net.strs h.probs (by decide) g e⟩)⟩, h.apart, h.below.grown hg (by have := h.net.box.lt; omega) (fun k e => by have := hlo k e; omega)⟩
/-- One way more in the list that is returned. -/
theorem EInv8.way {v1' : Value} {r : WayD} (h : EInv8 M w rs N ps v1 v2 n0 n1 W) (hM : M < w.heap.size) (hown : WayRow W' w.heap.size 51 v1' (rs ++ [r])) (hg : W.grownBy W' v1.ownBlock) (hmv : Moved W v1 v1') : EInv8 M w (rs ++ [r]) N ps v1' v2 n0 n1 W' := by
  have hlo : ∀ g, v1.ownBlock = some g → w.heap.size ≤ g := fun g e => (World.ownsRow.lt h.row g e).1
  refine ⟨hown, own_ne (S := fun _ => True) h.probs (.inr ⟨_, hg, fun g e => kinds_ne8 h.probs h.row (by decide) g e⟩), ⟨h.net.box.kept (hg.block M h.net.box.lt (fun e => by have := hlo M e.symm; omega)), own_ne (S := fun _ => True) h.net.ways (.inr ⟨_, hg, fun g e k => h.apart g k e⟩), own_ne (S := fun _ => True) h.net.strs (.inr ⟨_, hg, fun g e => kinds_ne8 h.net.strs h.row (by decide) g e⟩)⟩, fun g e k => ?_, h.below.grown hg (by have := h.net.box.lt; omega) (fun k e => by have := hlo k e; omega)⟩
  rcases hmv with h0 | ⟨j, h0, hj⟩
  · exact h.apart g (h0 ▸ e) k
  · rw [h0] at e
    injection e with e
    have := (World.ownsRow.lt h.net.ways g k).2
    omega
end
theorem four_new8 (w : World) (a b c d : Int) (T : TypeId) : ∀ (j : Nat) (u : Value), ([.int .i64 a, .int .i64 b, .int .i64 c, .int .i64 d] : List Value)[j]? = some u → (w.alloc (.cells #[.int .i64 a, .int .i64 b, .int .i64 c, .int .i64 d] T)).cell? ((⟨w.heap.size, 0, none⟩ : Addr).add j) = some u := by
  intro j u h
  rw [Addr.add_lit, Lib.cell_of_heap (heap_alloc_new w _), Nat.zero_add]
  match j, h with
  | 0, h => exact h
  | 1, h => exact h
  | 2, h => exact h
  | 3, h => exact h
  | j + 4, h => simp at h
theorem prob_one (p : ProbD) : ∀ u ∈ probVs p, u.oneCell' = true := by
  intro u hu
  simp [probVs] at hu
  rcases hu with rfl | rfl | rfl | rfl <;> rfl
/-- What reading entries leaves behind. -/
def EntsOut8 (M : Nat) (o : NetD × List ProbD) (w : World) (e : Ending) (w' : World) : Prop := ∃ v1 v2 n0 n1, e = .returned (.tuple #[v1, v2]) ∧ EInv8 M w o.1.1 o.1 o.2 v1 v2 n0 n1 w'
end Go.Proofs.YtocmbifljkcmeaaDoor

set_option linter.unusedVariables false
namespace Go.Proofs.YtocmbifljkcmeaaDoor
open Go Go.Proofs Go.RowKit Go.Lib

theorem addW_ok {N N' : NetD} {r : WayD} (h : addW N r = (N', 0)) : N' = (N.1 ++ [r], names2 N.2 r) := by
  unfold addW at h
  split at h
  · injection h with _ h; simp at h
  · split at h
    · injection h with _ h; simp at h
    · split at h
      · injection h with _ h; simp at h
      · injection h with h _; exact h.symm
theorem addW_no {N N' : NetD} {r : WayD} {e : Int} (h : addW N r = (N', e)) (he : e ≠ 0) : N' = N := by
  unfold addW at h
  split at h
  · injection h with h _; exact h.symm
  · split at h
    · injection h with h _; exact h.symm
    · split at h
      · injection h with h _; exact h.symm
      · injection h with _ h; exact absurd h.symm he
theorem slice_len {w : World} {B e z n m c : Nat} {A : Option Addr} {xs : List Value} (h : w.ownsRow B e z (.slice A m c) n xs) : n = m := by
  rcases h.2 with ⟨hv, h0⟩ | ⟨g, cap, cur, hv, _⟩
  · injection hv with _ h1 _; omega
  · injection hv with _ h1 _; omega
set_option maxHeartbeats 16000000 in
set_option maxRecDepth 100000 in
theorem entries8_any (A : Option Addr) (l : List RecD) (c M : Nat) (w : World) (hM : M < w.heap.size) (h : RecsIn w (fun k => k < M) A l) (hl : l.length ≤ 1073741824)
    (hE : ∀ W, Below M w W → Env8 W) (hK : Box2 w M 66 (.slice none 0 0) (.slice none 0 0)) :
    Calls Tryd.prog 36 #[.slice A l.length c, .int .i64 3, .func (.func 37) #[] #[], .func (.func 38) #[.pointer (some ⟨M, 0, none⟩)] #[]] w (EntsOut8 M (recsW l) w) := by
  obtain ⟨i4, hi4, hz4, hs4, hb4⟩ := info_parts infoProb
  obtain ⟨i5, hi5, hz5, hs5, hb5⟩ := info_parts infoWay
  have ea : ∀ args w, (callFunc 38 args).run Tryd.prog w = .ok (.enter 38 args) w := enters_of Tryd.func38 (by kernel_rfl) rfl
  have hI0 := EInv8.start (M := M) hK
  have HH := hid h
  have HE := hid hE
  have HI0 := hid hI0
  clear h hE hK hI0
  unfold EntsOut8
  go_enter Tryd.func36, Tryd.ntmps36
  go_wp2
  go_loopw [10, 11, 13, 19] (fun u1 u2 _ iv wr => ∃ (i : Nat) (A1 : Option Addr) (n1 c1 : Nat) (A2 : Option Addr) (n2 c2 : Nat), u1 = .slice A1 n1 c1 ∧ u2 = .slice A2 n2 c2 ∧ iv = .int .i64 (i : Int) ∧ i ≤ l.length ∧ Hid (∃ m0 m1, EInv8 M w (recsW (l.take i)).1.1 (recsW (l.take i)).1 (recsW (l.take i)).2 (.slice A1 n1 c1) (.slice A2 n2 c2) m0 m1 wr)) (fun _ _ _ iv _ => l.length - (RowKit.intOf iv).toNat)
  case atStart => exact ⟨0, _, _, _, _, _, _, rfl, rfl, rfl, Nat.zero_le _, hid ⟨_, _, HI0.out⟩⟩
  case round =>
    obtain ⟨i, A1, n1, c1, A2, n2, c2, rfl, rfl, rfl, hi, hI'⟩ := hrel
    obtain ⟨m0, m1, hIo⟩ := hI'.out
    have hI := hid hIo
    clear hI' hIo
    have hMs : M < wr.heap.size := hI.out.net.box.lt
    have HMS := hid hMs
    have hws := hI.out.below.size
    have HWS := hid hws
    clear hMs hws
    by_cases hlt : i < l.length
    · have hltz : (i : Int) < (l.length : Int) := by omega
      obtain ⟨fb, fo, A', c', rfl, hfb, hfi, hc1, hc2, y0, y1⟩ := HH.out.at_ hlt
      have kc : ∀ o : Nat, wr.cell? ⟨fb, o, none⟩ = w.cell? ⟨fb, o, none⟩ := fun o => hI.out.below.cell (p := ⟨fb, o, none⟩) hfb
      rw [← kc] at y0 y1
      have hst := recsW_take l i hlt
      have hnl := recsW_net (l.take i)
      rw [List.length_take] at hnl
      have hpl := recsW_probs (l.take i)
      rw [List.length_take] at hpl
      obtain ⟨⟨⟨ws, bs⟩, ps⟩, hst0⟩ : ∃ S, recsW (l.take i) = S := ⟨_, rfl⟩
      rw [hst0] at hst hnl hpl hI
      obtain ⟨⟨line, fs⟩, hx⟩ : ∃ X, l[i] = X := ⟨_, rfl⟩
      rw [hx] at hfi hc1 y0 y1 hst
      dsimp only at hfi hc1 y0 y1 hst hnl hpl hI
      have hb8 : bs.length ≤ 8 := hnl.b
      have hwl : ws.length ≤ i := by have := hnl.w; dsimp only at this; omega
      obtain ⟨F, hF⟩ : ∃ F, fs.length = F := ⟨_, rfl⟩
      have hw1 := (Below.refl wr.heap.size wr).alloc (Nat.le_refl _) (.cells #[.int .i64 line, .slice A' F c'] 41)
      have e1 := heap_alloc_new wr (.cells #[.int .i64 line, .slice A' F c'] 41)
      have hs1 : (wr.alloc (.cells #[.int .i64 line, .slice A' F c'] 41)).heap.size = wr.heap.size + 1 := by simp
      have x0 : (wr.alloc (.cells #[.int .i64 line, .slice A' F c'] 41)).cell? ⟨wr.heap.size, 0, none⟩ = some (.int .i64 line) := by rw [Lib.cell_of_heap e1]; rfl
      have x1 : (wr.alloc (.cells #[.int .i64 line, .slice A' F c'] 41)).cell? ⟨wr.heap.size, 1, none⟩ = some (.slice A' F c') := by rw [Lib.cell_of_heap e1]; rfl
      have hMw1 : Below M w (wr.alloc (.cells #[.int .i64 line, .slice A' F c'] 41)) := hI.out.below.trans (hw1.mono (Nat.le_of_lt HMS.out))
      have cE := readEntry8_any A' fs c' M (wr.alloc (.cells #[.int .i64 line, .slice A' F c'] 41)) (by rw [hs1]; have := HMS.out; omega) (hfi.below hMw1) hc1 hc2
        (fun W hb => HE.out W (hMw1.trans (hb.mono (by rw [hs1]; have := HMS.out; omega))))
      rw [hF] at cE y1
      unfold EntryOut8 at cE
      obtain ⟨⟨r, col, e0⟩, hen⟩ : ∃ S, entryW fs = S := ⟨_, rfl⟩
      have hrec : recW ((ws, bs), ps) (line, fs) = if e0 ≠ 0 then ((ws, bs), ps ++ [(line, col, e0)]) else if (addW (ws, bs) r).2 ≠ 0 then ((ws, bs), ps ++ [(line, col, (addW (ws, bs) r).2)]) else ((addW (ws, bs) r).1, ps) := by unfold recW; rw [hen]
      rw [hrec] at hst
      rw [hen] at cE
      have CE := hid cE
      have HST := hid hst
      have HI := hid hI.out
      have HE1 := hid e1
      have HW1 := hid hw1
      have HS1 := hid hs1
      clear hst hst0 hI e1 hw1 hs1 hx hfi hen hrec kc cE hMw1 hF hnl
      go_wp2_with fail
      generalize wr.alloc (.cells #[.int .i64 line, .slice A' F c'] 41) = w1 at CE HE1 HW1 HS1 x0 x1 ⊢
      refine CE.out.mono ?_
      rintro e w2 ⟨rfl, hb2⟩
      have hvs : wayV r = .agg #[.string (ba r.1), .string (ba r.2.1), .int .i64 r.2.2] := rfl
      have HVS := hid hvs
      rw [hvs]
      have hw3 := (Below.refl w2.heap.size w2).alloc (Nat.le_refl _) (.cells #[.string (ba r.1), .string (ba r.2.1), .int .i64 r.2.2] 51)
      have hB3 := Box3.new w2 51 (.string (ba r.1)) (.string (ba r.2.1)) (.int .i64 r.2.2)
      have hs3 : (w2.alloc (.cells #[.string (ba r.1), .string (ba r.2.1), .int .i64 r.2.2] 51)).heap.size = w2.heap.size + 1 := by simp
      obtain ⟨X1, hX1⟩ : ∃ z, ba r.1 = z := ⟨_, rfl⟩
      obtain ⟨X2, hX2⟩ : ∃ z, ba r.2.1 = z := ⟨_, rfl⟩
      rw [hX1, hX2] at hw3 hB3 hs3 HVS ⊢
      have HX12 : Hid (wayVs r = [.string X1, .string X2, .int .i64 r.2.2]) := hid (by unfold wayVs; rw [hX1, hX2])
      obtain ⟨w3, hw3e⟩ : ∃ w3, w2.alloc (.cells #[.string X1, .string X2, .int .i64 r.2.2] 51) = w3 := ⟨_, rfl⟩
      rw [hw3e] at hw3 hB3 hs3
      have hb13 : Below wr.heap.size wr w3 := HW1.out.trans ((hb2.mono (by rw [HS1.out]; omega)).trans (hw3.mono (by have := hb2.size; have := HW1.out.size; omega)))
      have hI3 := HI.out.under hM hb13
      have x03 : w3.cell? ⟨wr.heap.size, 0, none⟩ = some (.int .i64 line) := by
        rw [hw3.cell (p := ⟨wr.heap.size, 0, none⟩) (by have := hb2.size; have := HS1.out; show wr.heap.size < w2.heap.size; omega), hb2.cell (p := ⟨wr.heap.size, 0, none⟩) (by have := HS1.out; show wr.heap.size < w1.heap.size; omega)]
        exact x0
      have hz3 : wr.heap.size < w3.heap.size := by have := hb2.size; have := HS1.out; omega
      have HI3 := hid hI3
      have HB3 := hid hB3
      have HZ3 := hid hz3
      have HS3 := hid hs3
      have HZ2 := hid hb2.size
      clear hI3 hB3 hb13 hw3 hb2 x0 x1 hvs hz3 hs3 hX1 hX2
      by_cases he : e0 = 0
      · subst he
        have hst := HST.out
        rw [if_neg (by simp)] at hst
        have cA := add8_any M w.heap.size (ws, bs) r m0 m1 w3 hM (by have := HWS.out; have := HZ3.out; omega) HI3.out.net hb8 (by show ws.length ≤ _; omega)
        unfold AddOut8 at cA
        rw [HVS.out] at cA
        obtain ⟨⟨N', e1⟩, hae⟩ : ∃ e1, addW (ws, bs) r = e1 := ⟨_, rfl⟩
        rw [hae] at cA hst
        have HAE := hid hae
        dsimp only at cA hst
        have CA := hid cA
        have y0' := HB3.out.c0
        have y1' := HB3.out.c1
        have y2' := HB3.out.c2
        clear cA hae
        by_cases he2 : e1 = 0
        · subst he2
          rw [if_neg (by simp)] at hst
          have HSTF := hid hst
          clear hst
          go_wp2_with fail
          refine CA.out.mono ?_
          rintro e w4 ⟨rfl, m0', m1', hn4, hp4, hmv0, hmv1⟩
          have hI4 := HI3.out.add hM hn4 hp4 hmv0
          have hNS : ∀ k, wr.heap.size ≤ k → ¬ NetS M m0 m1 k := fun k hk hS => by
            rcases hS with e | e | e
            · have := HMS.out; omega
            · have := (World.ownsRow.lt HI.out.net.ways k e).2; omega
            · have := (World.ownsRow.lt HI.out.net.strs k e).2; omega
          have hB4 := HB3.out.kept (hp4.block w2.heap.size (by have := HS3.out; omega) (hNS _ (by have := HZ2.out; have := HS1.out; omega)))
          have hN' := addW_ok HAE.out
          dsimp only at hN'
          have hrz : ws.length = n1 := slice_len hI4.row
          have hrow4 : w4.ownsRow w.heap.size 51 3 (.slice A1 n1 c1) n1 (wayVals ws) := by have := hI4.row; unfold WayRow at this; rw [hrz] at this; exact this
          have HMX : Hid (n1 + 1 ≤ maxLen) := hid (by unfold maxLen; omega)
          have HBY : Hid ((n1 + 1) * 40 ≤ 140737488355328) := hid (by omega)
          have HO0 := hid hrow4
          have HRZ := hid hrz
          have HI4 := hid hI4
          have HNN := hid hN'
          have HN5 : Hid (∀ (j : Nat) (u : Value), ([.string X1, .string X2, .int .i64 r.2.2] : List Value)[j]? = some u → (w4.alloc (.cells #[.string X1, .string X2, .int .i64 r.2.2] 51)).cell? ((⟨w4.heap.size, 0, none⟩ : Addr).add j) = some u) := hid (three_new w4 _ _ _ _)
          have HON : Hid (∀ u ∈ ([.string X1, .string X2, .int .i64 r.2.2] : List Value), u.oneCell' = true) := hid (by rw [← HX12.out]; exact way_one r)
          have HW4S : Hid (w.heap.size ≤ (w4.alloc (.cells #[.string X1, .string X2, .int .i64 r.2.2] 51)).heap.size) := hid (by have := HWS.out; have := hp4.size; have := HZ3.out; simp; omega)
          have z0' := hB4.c0
          have z1' := hB4.c1
          have z2' := hB4.c2
          clear hn4 hp4 hmv0 hmv1 hI4 hB4 hrow4 hrz hN' hNS y0' y1' y2'
          go_wp2_with (at_builtin; refine wpList_append_own_at _ rfl _ _ 64 rfl w.heap.size 51 i5 (.agg #[.string ⟨#[]⟩, .string ⟨#[]⟩, .int .i64 0]) 3 40 Tryd.underlying64 hi5 hz5 hs5 hb5 rfl (by decide) _ n1 (wayVals ws) rfl (World.ownsRow.alloc HO0.out _) ⟨w4.heap.size, 0, none⟩ 1 1 [.string X1, .string X2, .int .i64 r.2.2] rfl rfl HN5.out HON.out HMX.out HBY.out HW4S.out ?_)
          intro v' w5 hown' hgrow hnil hat
          obtain ⟨g', cap', rfl⟩ := ownsRow_succ (k := n1) hown'
          have hI5 := HI4.out.way (r := r) (v1' := .slice (some ⟨g', 0, none⟩) (n1 + 1) cap') hM (by unfold WayRow; rw [wayVals_app, List.length_append, HRZ.out]; simpa [wayVals, HX12.out] using hown') (grownBy_of_alloc hgrow) (hat.imp id (fun h => ⟨_, h, by simp⟩))
          have HI5 : Hid (∃ m0 m1, EInv8 M w (recsW (l.take (i + 1))).1.1 (recsW (l.take (i + 1))).1 (recsW (l.take (i + 1))).2 (.slice (some ⟨g', 0, none⟩) (n1 + 1) cap') (.slice A2 n2 c2) m0 m1 w5) := hid ⟨_, _, by rw [HSTF.out]; dsimp only; rw [HNN.out] at hI5 ⊢; exact hI5⟩
          clear hI5 hown' hgrow hnil hat
          go_wp2_with fail
          go_roundw
          case rel => exact ⟨i + 1, _, _, _, _, _, _, rfl, rfl, by go_num, by omega, HI5⟩
          case measure => simp [RowKit.intOf]; omega
        · rw [if_pos he2] at hst
          have HSTF := hid hst
          have HNE := hid he2
          clear hst
          go_wp2_with fail
          refine CA.out.mono ?_
          rintro e w4 ⟨rfl, m0', m1', hn4, hp4, hmv0, hmv1⟩
          have hI4 := HI3.out.add hM hn4 hp4 hmv0
          have hNS : ∀ k, wr.heap.size ≤ k → ¬ NetS M m0 m1 k := fun k hk hS => by
            rcases hS with e | e | e
            · have := HMS.out; omega
            · have := (World.ownsRow.lt HI.out.net.ways k e).2; omega
            · have := (World.ownsRow.lt HI.out.net.strs k e).2; omega
          have hN' := addW_no HAE.out HNE.out
          rw [hN'] at hI4
          have x04 : w4.cell? ⟨wr.heap.size, 0, none⟩ = some (.int .i64 line) := (World.cell?_of_block (w := w3) (hp4.block wr.heap.size HZ3.out (hNS _ (Nat.le_refl _)))).trans x03
          have HI4 := hid hI4
          have HWZ := hid (show w.heap.size ≤ w4.heap.size by have := HWS.out; have := hp4.size; have := HZ3.out; omega)
          have hne2 : (e1 != 0) = true := by simpa using HNE.out
          clear hn4 hp4 hmv0 hmv1 hI4 hN' hNS y0' y1' y2'
          have hpz : ps.length = n2 := slice_len HI4.out.probs
          have HMX : Hid (n2 + 1 ≤ maxLen) := hid (by unfold maxLen; omega)
          have HBY : Hid ((n2 + 1) * 32 ≤ 140737488355328) := hid (by omega)
          have hprow : ProbsRow w4 w.heap.size (.slice A2 n2 c2) ps := HI4.out.probs
          unfold ProbsRow at hprow
          rw [hpz] at hprow
          have HPR := hid hprow
          have HPZ := hid hpz
          have HN4 : Hid (∀ (j : Nat) (u : Value), (probVs (line, col, e1))[j]? = some u → (w4.alloc (.cells #[.int .i64 0, .int .i64 line, .int .i64 col, .int .i64 e1] 78)).cell? ((⟨w4.heap.size, 0, none⟩ : Addr).add j) = some u) := hid (four_new8 w4 0 line col e1 78)
          have HON : Hid (∀ u ∈ probVs (line, col, e1), u.oneCell' = true) := hid (prob_one (line, col, e1))
          have HW3S : Hid (w.heap.size ≤ (w4.alloc (.cells #[.int .i64 0, .int .i64 line, .int .i64 col, .int .i64 e1] 78)).heap.size) := hid (by have := HWZ.out; simp; omega)
          clear hprow hpz
          go_wp2_with (at_builtin; (try rw [hw3e]); refine wpList_append_own_at _ rfl _ _ 42 rfl w.heap.size 78 i4 (.agg #[.int .i64 0, .int .i64 0, .int .i64 0, .int .i64 0]) 4 32 Tryd.underlying42 hi4 hz4 hs4 hb4 rfl (by decide) _ n2 (probVals ps) rfl (World.ownsRow.alloc HPR.out _) ⟨w4.heap.size, 0, none⟩ 1 1 (probVs (line, col, e1)) rfl rfl HN4.out HON.out HMX.out HBY.out HW3S.out ?_)
          intro v' w5 hown' hgrow hnil hat
          obtain ⟨g', cap', rfl⟩ := ownsRow_succ (k := n2) hown'
          have hI5 := HI4.out.prob (p := (line, col, e1)) hM (v2' := .slice (some ⟨g', 0, none⟩) (n2 + 1) cap') (by unfold ProbsRow; rw [probVals_app, List.length_append, HPZ.out]; simpa [probVals] using hown') (grownBy_of_alloc hgrow)
          have HI5 : Hid (∃ m0 m1, EInv8 M w (recsW (l.take (i + 1))).1.1 (recsW (l.take (i + 1))).1 (recsW (l.take (i + 1))).2 (.slice A1 n1 c1) (.slice (some ⟨g', 0, none⟩) (n2 + 1) cap') m0 m1 w5) := hid ⟨_, _, by rw [HSTF.out]; exact hI5⟩
          clear hI5 hown' hgrow hnil hat
          go_wp2_with fail
          go_roundw
          case rel => exact ⟨i + 1, _, _, _, _, _, _, rfl, rfl, by go_num, by omega, HI5⟩
          case measure => simp [RowKit.intOf]; omega
      · have hst := HST.out
        rw [if_pos he] at hst
        have HSTF := hid hst
        clear hst
        have hne : (e0 == 0) = false := by simpa using he
        have HNE := hid he
        have hne2 : (e0 != 0) = true := by simpa using HNE.out
        have HWZ := hid (show w.heap.size ≤ w3.heap.size by have := HWS.out; have := HZ3.out; omega)
        have hpz : ps.length = n2 := slice_len HI3.out.probs
        have HMX : Hid (n2 + 1 ≤ maxLen) := hid (by unfold maxLen; omega)
        have HBY : Hid ((n2 + 1) * 32 ≤ 140737488355328) := hid (by omega)
        have hprow : ProbsRow w3 w.heap.size (.slice A2 n2 c2) ps := HI3.out.probs
        unfold ProbsRow at hprow
        rw [hpz] at hprow
        have HPR := hid hprow
        have HPZ := hid hpz
        have HN4 : Hid (∀ (j : Nat) (u : Value), (probVs (line, col, e0))[j]? = some u → (w3.alloc (.cells #[.int .i64 0, .int .i64 line, .int .i64 col, .int .i64 e0] 78)).cell? ((⟨w3.heap.size, 0, none⟩ : Addr).add j) = some u) := hid (four_new8 w3 0 line col e0 78)
        have HON : Hid (∀ u ∈ probVs (line, col, e0), u.oneCell' = true) := hid (prob_one (line, col, e0))
        have HW3S : Hid (w.heap.size ≤ (w3.alloc (.cells #[.int .i64 0, .int .i64 line, .int .i64 col, .int .i64 e0] 78)).heap.size) := hid (by have := HWZ.out; simp; omega)
        clear hprow hpz
        go_wp2_with (at_builtin; (try rw [hw3e]); refine wpList_append_own_at _ rfl _ _ 42 rfl w.heap.size 78 i4 (.agg #[.int .i64 0, .int .i64 0, .int .i64 0, .int .i64 0]) 4 32 Tryd.underlying42 hi4 hz4 hs4 hb4 rfl (by decide) _ n2 (probVals ps) rfl (World.ownsRow.alloc HPR.out _) ⟨w3.heap.size, 0, none⟩ 1 1 (probVs (line, col, e0)) rfl rfl HN4.out HON.out HMX.out HBY.out HW3S.out ?_)
        intro v' w5 hown' hgrow hnil hat
        obtain ⟨g', cap', rfl⟩ := ownsRow_succ (k := n2) hown'
        have hI5 := HI3.out.prob (p := (line, col, e0)) hM (v2' := .slice (some ⟨g', 0, none⟩) (n2 + 1) cap') (by unfold ProbsRow; rw [probVals_app, List.length_append, HPZ.out]; simpa [probVals] using hown') (grownBy_of_alloc hgrow)
        have HI5 : Hid (∃ m0 m1, EInv8 M w (recsW (l.take (i + 1))).1.1 (recsW (l.take (i + 1))).1 (recsW (l.take (i + 1))).2 (.slice A1 n1 c1) (.slice (some ⟨g', 0, none⟩) (n2 + 1) cap') m0 m1 w5) := hid ⟨_, _, by rw [HSTF.out]; exact hI5⟩
        clear hI5 hown' hgrow hnil hat
        go_wp2_with fail
        go_roundw
        case rel => exact ⟨i + 1, _, _, _, _, _, _, rfl, rfl, by go_num, by omega, HI5⟩
        case measure => simp [RowKit.intOf]; omega
    · have hltz : ¬ (i : Int) < (l.length : Int) := by omega
      rw [List.take_of_length_le (by omega)] at hI
      go_wp2
      go_ret2
      exact ⟨_, _, rfl, _, _, hI.out⟩
end Go.Proofs.YtocmbifljkcmeaaDoor

