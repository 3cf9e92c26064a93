/-
  Read of lecturers of the specification. Conditions: the variables hold what their text lays; the records lie in memory, each text has at most 2097152 bytes.
-/
import Derived.Test.YtnpfmoalgphkcaaGreatDoorMM01
import Derived.Test.YtnpfmoalgphkcaaGreatDoorMM02
import Derived.Test.YtnpfmoalgphkcaaGreatDoorMM03
import Derived.Test.YtnpfmoalgphkcaaGreatDoorMM04
import Derived.Test.YtnpfmoalgphkcaaGreatDoorMM05
import Derived.Test.YtnpfmoalgphkcaaGreatDoorMM06
import Derived.Test.YtnpfmoalgphkcaaGreatDoorMM07
import Derived.Test.YtnpfmoalgphkcaaGreatDoorMM08
import Derived.Test.YtnpfmoalgphkcaaGreatDoorMM09
import Derived.Test.YtnpfmoalgphkcaaGreatDoorMM10
import Derived.Test.YtnpfmoalgphkcaaGreatDoorMM11
import Derived.Test.YtnpfmoalgphkcaaGreatDoorMM12
import Derived.Test.YtnpfmoalgphkcaaGreatDoorMM13
import Derived.Test.YtnpfmoalgphkcaaGreatDoorMM14
import Derived.Test.YtnpfmoalgphkcaaGreatDoorMM15
import Derived.Test.YtnpfmoalgphkcaaGreatDoorMM16
import Derived.Test.YtnpfmoalgphkcaaGreatDoorMM17
import Derived.Test.YtnpfmoalgphkcaaGreatDoorMM20
import Derived.Test.YtnpfmoalgphkcaaGreatDoorMM22
import Derived.Test.YtnpfmoalgphkcaaGreatDoorMM23
import Derived.Test.YtnpfmoalgphkcaaGreatDoorMM24
import Derived.Test.YtnpfmoalgphkcaaGreatDoorMM25
import Derived.Test.YtnpfmoalgphkcaaGreatDoorMM26
import Derived.Test.YtnpfmoalgphkcaaGreatDoorMM27
import Derived.Test.YtnpfmoalgphkcaaGreatDoorMM28
import Derived.Test.YtnpfmoalgphkcaaGreatDoorMM29
import Derived.Test.YtnpfmoalgphkcaaGreatDoorProg
import Derived.WalkKit
import Derived.WalkSpells
import Derived.WalkLawsBesides
import Derived.Lib.Hide
import Derived.Deep.QuietTactic
import Derived.BigQuiet
import Derived.Laws.Rows
import Derived.OwnWalk
import Derived.Lib.BufferWrite
import Derived.Lib.UnsafeStr
import Derived.Laws.IdiomStrings
import Derived.Laws.BytesArg
import Derived.Laws.BytesString
import Derived.Laws.OwnMore
import Derived.Lib.IndexLaws
import Derived.Lib.ItoaNum
import Derived.Lib.Atoi
import Derived.Lib.Bytealg
import Derived.Maps.OwnSet
import Derived.Maps.Range
import Derived.Deep.RegionLaw
import Derived.Deep.RegionHeld3
import Derived.Handy
import Derived.Laws.BitsAllLaws
import Derived.Laws.BitsLemmas
import Derived.Deep.MidRow
import Derived.Shelf.Strings.Builder1
import Derived.Shelf.Strings.Builder2
import Derived.Shelf.Strings.OnBuilder
import Derived.Shelf.Strings.BuilderF
import Derived.Shelf.Strings.BuilderK
import Derived.Shelf.Strings.Builder2Cap
import Derived.Shelf.Strconv.Atoi
import Derived.Shelf.Strconv.Itoa0
import Derived.Shelf.Strconv.Itoa1
import Derived.Shelf.LaysM
import Derived.Shelf.Strconv.Itoa2
import Derived.Shelf.Strconv.Itoa3
import Derived.Shelf.Strconv.AtoiErrFast
import Derived.Shelf.Strconv.ParseIntEmpty
import Derived.Shelf.Strconv.AtoiFail
import Derived.Shelf.Strconv.Clone
import Derived.Shelf.Strconv.SyntaxError
import Derived.Shelf.LaysC
import Derived.Shelf.Strconv.ToError
import Derived.Shelf.Strconv.AtoiErr
import Derived.Shelf.Strings.Search1
import Derived.Shelf.Strings.Search2
import Derived.Shelf.Strings.Search3
import Derived.Shelf.Strings.Cut
import Derived.Shelf.Strings.Shaped
import Derived.Shelf.Strings.Prefix
import Derived.Shelf.Unicode.DecodeSlow
import Derived.Shelf.Strings.BuilderCap
import Derived.Lib.AtoiErrMem
import Derived.RangeFuncNested
import Derived.RangeFuncBound
import Derived.RangeFuncCalls
import Derived.RangeFuncLeaves
import Derived.Shelf.Abstract
import Derived.Shelf.RegionOpen
import Derived.OwnWalkIn
import Derived.Lib.SlTrimSet
import Derived.Shelf.Strings.SlTrimAscii
import Derived.Laws.ResultCell
import Derived.RegionTactic
import Derived.Lib.Repeat
import Derived.Lib.SlicesS
import Derived.TacticsInMore
import Derived.LoopNIn
import Derived.LoopIn
import Derived.Deep.DeepCutAuto
import Derived.Lib.Join
import Derived.Laws.Concat
import Derived.Sort.EncStr
import Derived.Sort.Walk0
import Derived.StillTailTactics
import Derived.Deep.RegionLawGrows
import Derived.Deep.AppendLies
import Derived.Deep.CutBlock
import Derived.Maps.AppendAt
import Derived.IntWalk
import Derived.Shelf.SlGeneric
import Derived.Shelf.SlicesQ.IndexFunc
set_option linter.unusedVariables false
namespace Go.Proofs.YtnpfmoalgphkcaaGreatDoor.S9
open Go Go.Proofs Go.RowKit Go.Lib Go.Proofs.YtnpfmoalgphkcaaGreatDoor
theorem one_any (d s b m n line : Int) (A' : Option Addr) (fs : List FieldD) (c' : Nat) (Ar : Option Addr) (l : List LectD) (cr : Nat) (w : World)
    (hf : FieldsIn w (fun k => k < w.heap.size) A' fs) (hr : LectsIn w (fun k => k < w.heap.size) Ar l) (hl : l.length ≤ 32) (hsz : ∀ f ∈ fs, f.1.length ≤ 2097152) (hE : REnv7 w) :
    Calls Tryz.prog 50 #[.agg #[.int .i64 line, .slice A' fs.length c'], .agg #[.int .i64 d, .int .i64 s, .int .i64 b, .int .i64 m], .int .i64 n, .slice Ar l.length cr] w (LectOut d s b m n l line fs w) := by
  by_cases h5 : fs.length = 2
  · match fs, h5 with
    | [x0, x1], _ => exact one2_any d s b m n line A' x0 x1 c' Ar l cr w hf hr hl hsz hE
  · exact oneW_any d s b m n line A' fs c' Ar l cr w h5
structure RInv (w : World) (rs : List LectD) (ps : List ProbD) (v1 v2 : Value) (W : World) : Prop where
  row : ∃ Lr : List (LectD × LectA), Lr.map (·.1) = rs ∧ W.ownsRow w.heap.size 34 2 v1 Lr.length (lectVals Lr) ∧ ∀ p ∈ Lr, LectIn W (fun k => w.heap.size ≤ k ∧ k < W.heap.size ∧ some k ≠ v1.ownBlock ∧ some k ≠ v2.ownBlock) p.1 p.2
  probs : ProbsRow W w.heap.size v2 ps
  below : Below w.heap.size w W
theorem RInv.start (w : World) : RInv w [] [] (.slice none 0 0) (.slice none 0 0) w :=
  ⟨⟨[], rfl, World.ownsRow_nil _ _ _ _, fun p hp => by simp at hp⟩, World.ownsRow_nil _ _ _ _, Below.refl _ _⟩
section
variable {w W W' : World} {rs : List LectD} {ps : List ProbD} {v1 v2 : Value}
theorem RInv.under (h : RInv w rs ps v1 v2 W) (hb : Below W.heap.size W W') : RInv w rs ps v1 v2 W' := by
  obtain ⟨⟨Lr, hL, ho, hr⟩, hp, h3⟩ := h
  exact ⟨⟨Lr, hL, S3.row_under ho hb, fun p hp' => ((hr p hp').kept (fun k hk => hb.block k hk.2.1)).mono (fun k hk => ⟨hk.1, Nat.lt_of_lt_of_le hk.2.1 hb.size, hk.2.2⟩)⟩, S3.row_under hp hb, h3.trans (hb.mono h3.size)⟩
theorem RInv.prob {v2' : Value} {p : ProbD} (h : RInv w rs ps v1 v2 W) (hown : ProbsRow W' w.heap.size v2' (ps ++ [p])) (hg : W.grownBy W' v2.ownBlock) (hat : v2'.ownBlock = v2.ownBlock ∨ ∃ k, v2'.ownBlock = some k ∧ W.heap.size ≤ k) : RInv w rs (ps ++ [p]) v1 v2' W' := by
  obtain ⟨⟨Lr, hL, ho, hr⟩, hp, hb⟩ := h
  have hs := hg.size
  have hbs := hb.size
  refine ⟨⟨Lr, hL, World.ownsRow.kept ho hg (kinds_ne ho hp (by decide)), fun p hp' => ?_⟩, hown, hb.grown hg (by omega) (fun k e => (own_lt hp k e).1)⟩
  refine ((hr p hp').kept (fun k hk => hg.block k hk.2.1 hk.2.2.2)).mono (fun k hk => ⟨hk.1, by omega, hk.2.2.1, ?_⟩)
  rcases hat with e | ⟨j, e, hj⟩
  · rw [e]; exact hk.2.2.2
  · rw [e]; intro e0; injection e0 with e0; have := hk.2.1; omega
theorem RInv.room {v1' : Value} {r : LectD} {q : LectA} {C : Nat} (h : RInv w rs ps v1 v2 W)
    (hr' : LectIn W (fun k => C ≤ k ∧ k < W.heap.size) r q) (hC : w.heap.size ≤ C) (h1 : ∀ k, v1.ownBlock = some k → k < C) (h2 : ∀ k, v2.ownBlock = some k → k < C)
    {Lr : List (LectD × LectA)} (hL : Lr.map (·.1) = rs) (ho : W.ownsRow w.heap.size 34 2 v1 Lr.length (lectVals Lr)) (hr : ∀ p ∈ Lr, LectIn W (fun k => w.heap.size ≤ k ∧ k < W.heap.size ∧ some k ≠ v1.ownBlock ∧ some k ≠ v2.ownBlock) p.1 p.2)
    (hown : W'.ownsRow w.heap.size 34 2 v1' (Lr.length + 1) (lectVals Lr ++ lectVs r q))
    (hg : W.grownBy W' v1.ownBlock) (hat : v1'.ownBlock = v1.ownBlock ∨ ∃ k, v1'.ownBlock = some k ∧ W.heap.size ≤ k) : RInv w (rs ++ [r]) ps v1' v2 W' := by
  obtain ⟨_, hp, hb⟩ := h
  have hs := hg.size
  have hbs := hb.size
  have hne : ∀ k, k < W.heap.size → some k ≠ v1.ownBlock → some k ≠ v1'.ownBlock := by
    intro k hk hne
    rcases hat with e | ⟨j, e, hj⟩
    · rw [e]; exact hne
    · rw [e]; intro e0; injection e0 with e0; omega
  refine ⟨⟨Lr ++ [(r, q)], by rw [List.map_append, hL]; rfl, ?_, fun p hp' => ?_⟩, World.ownsRow.kept hp hg (kinds_ne hp ho (by decide)), hb.grown hg (by omega) (fun k e => (own_lt ho k e).1)⟩
  · rw [lectVals_app, List.length_append, List.length_singleton]
    simpa [lectVals] using hown
  · rcases List.mem_append.1 hp' with hp' | hp'
    · exact ((hr p hp').kept (fun k hk => hg.block k hk.2.1 hk.2.2.1)).mono (fun k hk => ⟨hk.1, by omega, hne k hk.2.1 hk.2.2.1, hk.2.2.2⟩)
    · rw [List.mem_singleton] at hp'
      subst hp'
      have k1 : ∀ k, C ≤ k → some k ≠ v1.ownBlock := fun k hk e => by have := h1 k e.symm; omega
      have k2 : ∀ k, C ≤ k → some k ≠ v2.ownBlock := fun k hk e => by have := h2 k e.symm; omega
      exact (hr'.kept (fun k hk => hg.block k hk.2 (k1 k hk.1))).mono (fun k hk => ⟨by omega, by omega, hne k hk.2 (k1 k hk.1), k2 k hk.1⟩)
theorem RInv.rooms {A1 : Option Addr} {n1 c1 : Nat} (h : RInv w rs ps (.slice A1 n1 c1) v2 W) : n1 = rs.length ∧ LectsIn W (fun k => k < W.heap.size) A1 rs := by
  obtain ⟨⟨Lr, hL, ho, hr⟩, hp, hb⟩ := h
  have hl : Lr.length = rs.length := by rw [← hL, List.length_map]
  rw [hl] at ho
  obtain ⟨A, c, hv, _, _, hin⟩ := LectRow.lectsIn (P := fun k => k < W.heap.size) ⟨Lr, hL, ho, fun p hp => (hr p hp).mono (fun k hk => hk.2.1)⟩
  injection hv with e1 e2 _
  subst e1
  exact ⟨e2, hin.mono (fun k hk => by rcases hk with h | h; exact h; exact h.2)⟩
end
structure TG (w0 wo : World) (d s b m : Int) (bp op : Nat) (line : Int) (v : Value) (w : World) : Prop where
  g : Box4 w w0.heap.size d s b m
  c0 : w.cell? ⟨bp, op, none⟩ = some (.int .i64 line)
  c1 : w.cell? ⟨bp, op + 1, none⟩ = some v
  o : Below wo.heap.size wo w
  z : bp < wo.heap.size
  y : w0.heap.size < wo.heap.size
section
variable {w0 wo w w' : World} {d s b m line : Int} {bp op : Nat} {v : Value}
theorem TG.far (h : TG w0 wo d s b m bp op line v w) (q : Below wo.heap.size w w') : TG w0 wo d s b m bp op line v w' :=
  ⟨h.g.next q h.y, (q.cell (p := ⟨bp, op, none⟩) h.z).trans h.c0, (q.cell (p := ⟨bp, op + 1, none⟩) h.z).trans h.c1, h.o.trans q, h.z, h.y⟩
theorem TG.next (h : TG w0 wo d s b m bp op line v w) (q : Below w.heap.size w w') : TG w0 wo d s b m bp op line v w' := h.far (q.mono h.o.size)
theorem TG.cells (h : TG w0 wo d s b m bp op line v w) :
    w.cell? ⟨w0.heap.size, 0, none⟩ = some (.int .i64 d) ∧ w.cell? ⟨w0.heap.size, 1, none⟩ = some (.int .i64 s) ∧ w.cell? ⟨w0.heap.size, 2, none⟩ = some (.int .i64 b) ∧ w.cell? ⟨w0.heap.size, 3, none⟩ = some (.int .i64 m) ∧ w.cell? ⟨bp, op, none⟩ = some (.int .i64 line) ∧ w.cell? ⟨bp, op + 1, none⟩ = some v :=
  ⟨h.g.c0, h.g.c1, h.g.c2, h.g.c3, h.c0, h.c1⟩
end
theorem two_below (W : World) (R : Nat) (u0 u1 : Value) : Below R W ((W.setCell ⟨R, 0, none⟩ u0).setCell ⟨R, 1, none⟩ u1) :=
  ((Below.refl R W).setCell (p := ⟨R, 0, none⟩) (Nat.le_refl _) u0).setCell (p := ⟨R, 1, none⟩) (Nat.le_refl _) u1
def OneOut (d s b m n : Int) (rs : List LectD) (line : Int) (fs : List FieldD) (r : LectD) (k e0 : Int) : Prop :=
  (e0 ≠ 0 ∧ k = -1 ∧ ∀ ps, recM d s b m n (rs, ps) (line, fs) = (rs, ps ++ [(line, 0, e0)])) ∨
  (e0 ≠ 0 ∧ (∃ (j : Nat) (hj : j < fs.length), j < 5 ∧ k = (j : Int) ∧ ∀ ps, recM d s b m n (rs, ps) (line, fs) = (rs, ps ++ [(line, fs[j].2.1, e0)]))) ∨
  (e0 = 0 ∧ ∀ ps, recM d s b m n (rs, ps) (line, fs) = (rs ++ [r], ps))
theorem RoomAfterA {d s b m n line k e0 : Int} {rs : List LectD} {fs : List FieldD} {vs : List Value} {wr w' : World} {o : Obj} (h : ∃ (r : LectD) (q : LectA), lectVs r q = vs ∧ OneOut d s b m n rs line fs r k e0 ∧ (e0 = 0 → LectIn w' (fun k => wr.drew.heap.size ≤ k ∧ k < w'.heap.size) r q)) (hb : Below wr.drew.heap.size wr.drew w') :
    ∃ (r : LectD) (q : LectA), lectVs r q = vs ∧ OneOut d s b m n rs line fs r k e0 ∧ (e0 = 0 → LectIn (w'.alloc o) (fun k => wr.heap.size ≤ k ∧ k < (w'.alloc o).heap.size) r q) := by
  obtain ⟨r, q, h1, h2, h3⟩ := h
  refine ⟨r, q, h1, h2, fun h0 => ?_⟩
  exact ((h3 h0).kept (fun k hk => heap_alloc_old w' o hk.2)).mono (fun k hk => ⟨hk.1, by have := hk.2; simp; omega⟩)
theorem RoomAfterB {d s b m n line k e0 : Int} {rs : List LectD} {fs : List FieldD} {vs : List Value} {wr wx w' : World} {u0 u1 : Value} (h : ∃ (r : LectD) (q : LectA), lectVs r q = vs ∧ OneOut d s b m n rs line fs r k e0 ∧ (e0 = 0 → LectIn w' (fun k => wx.heap.size ≤ k ∧ k < w'.heap.size) r q)) (hx : wx.heap.size = wr.heap.size + 1) :
    ∃ (r : LectD) (q : LectA), lectVs r q = vs ∧ OneOut d s b m n rs line fs r k e0 ∧ (e0 = 0 → LectIn ((w'.setCell ⟨wr.heap.size, 0, none⟩ u0).setCell ⟨wr.heap.size, 1, none⟩ u1) (fun k => wr.heap.size ≤ k ∧ k < ((w'.setCell ⟨wr.heap.size, 0, none⟩ u0).setCell ⟨wr.heap.size, 1, none⟩ u1).heap.size) r q) := by
  obtain ⟨r, q, h1, h2, h3⟩ := h
  refine ⟨r, q, h1, h2, fun h0 => ?_⟩
  exact ((h3 h0).kept (fun k hk => two_else w' wr.heap.size k (by omega) u0 u1)).mono (fun k hk => ⟨by omega, by rw [two_size]; exact hk.2⟩)
theorem two_cells (w : World) (v0 v1 : Value) : ∀ (j : Nat) (u : Value), [v0, v1][j]? = some u → (w.alloc (.cells #[v0, v1] 34)).cell? ((⟨w.heap.size, 0, none⟩ : Addr).add j) = some u := by
  intro j u h
  obtain ⟨k0, k1⟩ := (Box2.new w v0 v1).cells
  rw [Addr.add_lit]
  match j, h with
  | 0, h => exact k0.trans h
  | 1, h => exact k1.trans h
  | j + 2, h => simp at h
set_option maxHeartbeats 16000000 in
set_option maxRecDepth 100000 in
theorem rread9_any (d s b m n : Int) (A : Option Addr) (l : List RecD) (c : Nat) (w : World) (h : RecsIn w (fun k => k < w.heap.size) A l) (hl : l.length ≤ 1073741824)
    (hsz : ∀ x ∈ l, ∀ f ∈ x.2, f.1.length ≤ 2097152) (hE : REnv7 w) :
    Calls Tryz.prog 17 #[.slice A l.length c, .agg #[.int .i64 d, .int .i64 s, .int .i64 b, .int .i64 m], .int .i64 n] w (ReadOut (readM d s b m n l) w) := by
  obtain ⟨i4, hi4, hz4, hs4, hb4⟩ := info_parts infoProb
  obtain ⟨i5, hi5, hz5, hs5, hb5⟩ := info_parts infoLect
  unfold ReadOut readM
  have hk := K1.first w d s b m 24
  obtain ⟨g0, g1, g2, g3, _⟩ := hk.x
  have cF := fun w => usable_any d s b m n w
  unfold Says at cF
  have HK := hid hk
  have HH := hid h
  have HSZ := hid hsz
  have HE := hid (fun (w' : World) (hb : Below w.heap.size w w') => hE.below hb (Nat.le_refl _))
  have hs0 : (w.alloc (.cells #[.int .i64 d, .int .i64 s, .int .i64 b, .int .i64 m] 24)).heap.size = w.heap.size + 1 := by simp
  have HS0 := hid hs0
  clear hk h hE hsz hs0
  cases hf : frameB d s b m n with
  | false =>
    simp only [hf] at cF ⊢
    have CF := hid cF
    clear cF hf
    go_enter Tryz.func17, Tryz.ntmps17
    go_wp2_with fail
    refine (CF.out _).mono ?_
    rintro e w1 ⟨rfl, hb⟩
    have HB := hid hb
    clear hb
    go_wp2
    go_ret2
    have hz := HB.out.size
    simp at hz
    refine ⟨_, _, rfl, ⟨[], rfl, World.ownsRow_nil _ _ _ _, fun p hp => by simp at hp⟩, TimeRow.low' (prob_new w1 1) (by omega), ?_⟩
    exact (HK.out.b.trans (HB.out.mono (by simp))).trans ((Below.refl _ w1).alloc (by omega) _)
  | true =>
    simp only [hf, if_true] at cF ⊢
    have CF := hid cF
    clear cF hf
    go_enter Tryz.func17, Tryz.ntmps17
    go_wp2_with fail
    refine (CF.out _).mono ?_
    rintro e w1 ⟨rfl, hb⟩
    have hk1 := HK.out.next hb
    have HK1 := hid hk1
    have hz1 : w.heap.size < w1.heap.size := by have := hb.size; have := HS0.out; omega
    clear hb hk1 g0 g1 g2 g3
    go_wp2
    go_loopw [8, 9, 10, 11, 12, 13] (fun u1 u2 iv _ _ _ wr => ∃ (i : Nat) (A1 : Option Addr) (n1 c1 : Nat) (A2 : Option Addr) (n2 c2 : Nat), u1 = .slice A1 n1 c1 ∧ u2 = .slice A2 n2 c2 ∧ iv = .int .i64 (i : Int) ∧ i ≤ l.length ∧ Hid (RInv w1 (recsM d s b m n (l.take i)).1 (recsM d s b m n (l.take i)).2 (.slice A1 n1 c1) (.slice A2 n2 c2) wr)) (fun _ _ iv _ _ _ _ => l.length - (RowKit.intOf iv).toNat)
    case atStart => exact ⟨0, none, 0, 0, none, 0, 0, rfl, rfl, rfl, Nat.zero_le _, hid (RInv.start w1)⟩
    case round =>
      obtain ⟨i, A1, n1, c1, A2, n2, c2, rfl, rfl, rfl, hi, hI⟩ := hrel
      by_cases hlt : i < l.length
      · have hltz : (i : Int) < (l.length : Int) := by omega
        have hwz := hI.out.below.size
        have hbw : Below w.heap.size w wr := HK1.out.b.trans (hI.out.below.mono (by omega))
        obtain ⟨fb, fo, A', c', rfl, hfb, hfi, hc1, hc2, y0, y1⟩ := (HH.out.below hbw).at_ hlt
        have hst := recsM_take d s b m n l i hlt
        have hrl := recsM_len d s b m n (l.take i)
        have hpl := recsM_probs d s b m n (l.take i)
        rw [List.length_take] at hpl
        have hszi := HSZ.out _ (List.getElem_mem hlt)
        obtain ⟨⟨rs, ps⟩, hst0⟩ : ∃ S, recsM d s b m n (l.take i) = S := ⟨_, rfl⟩
        rw [hst0] at hst hrl hpl hI
        obtain ⟨⟨line, fs⟩, hx⟩ : ∃ X, l[i] = X := ⟨_, rfl⟩
        rw [hx] at hfi hc1 y0 y1 hst hszi
        dsimp only at hfi hc1 y0 y1 hst hszi hrl hpl hI
        obtain ⟨F, hF⟩ : ∃ F, fs.length = F := ⟨_, rfl⟩
        rw [hF] at hc1 y1
        have hn1 := hI.out.rooms.1
        have hlt1 : ∀ k, (Value.slice A1 n1 c1).ownBlock = some k → k < wr.heap.size := fun k e => by obtain ⟨Lr, _, ho, _⟩ := hI.out.row; exact (own_lt ho k e).2
        have hlt2 : ∀ k, (Value.slice A2 n2 c2).ownBlock = some k → k < wr.heap.size := fun k e => (own_lt hI.out.probs k e).2
        have cR : Hid (∀ wx, Below wr.heap.size wr wx → Calls Tryz.prog 50 #[.agg #[.int .i64 line, .slice A' F c'], .agg #[.int .i64 d, .int .i64 s, .int .i64 b, .int .i64 m], .int .i64 n, .slice A1 n1 c1] wx fun e w' =>
            ∃ (X0 : ByteArray) (a1 : Option Addr) (m1 k1 : Nat) (k e0 : Int), e = .returned (.tuple #[.agg #[.string X0, .slice a1 m1 k1], .int .i64 k, .int .i64 e0]) ∧ Below wx.heap.size wx w' ∧
              ∃ (r : LectD) (q : LectA), lectVs r q = [.string X0, .slice a1 m1 k1] ∧ OneOut d s b m n rs line fs r k e0 ∧ (e0 = 0 → LectIn w' (fun k => wx.heap.size ≤ k ∧ k < w'.heap.size) r q)) := hid (fun wx hb => by
          have hIx := hI.out.under hb
          have hr := hIx.rooms
          have h := one_any d s b m n line A' fs c' A1 rs c1 wx ((hfi.mono (fun k hk => Nat.lt_of_lt_of_le hk hbw.size)).below hb |>.mono (fun k hk => Nat.lt_of_lt_of_le hk hb.size)) hr.2 hrl hszi (HE.out wx (hbw.trans (hb.mono hbw.size)))
          rw [hF, ← hr.1] at h
          refine h.mono ?_
          rintro e w' ⟨⟨r, q, k, e0, rfl, ho⟩, hb'⟩
          refine ⟨_, _, _, _, k, e0, rfl, hb', r, q, rfl, ?_, ?_⟩
          · rcases ho with ho | ho | ⟨h1, h2, _⟩
            · exact .inl ho
            · exact .inr (.inl ho)
            · exact .inr (.inr ⟨h1, h2⟩)
          · intro h0
            rcases ho with ⟨h1, _⟩ | ⟨h1, _⟩ | ⟨_, _, h3⟩
            · exact absurd h0 h1
            · exact absurd h0 h1
            · exact h3)
        have hts : TG w wr d s b m fb (fo + i * 2) line (.slice A' F c') wr := ⟨HK1.out.x.next hI.out.below (by omega), y0, y1, Below.refl _ _, Nat.lt_of_lt_of_le hfb hbw.size, by omega⟩
        have HTS := hid hts
        have HST := hid hst
        have HFI := hid hfi
        have HF := hid hF
        have HL1 := hid hlt1
        have HL2 := hid hlt2
        have hd : decide (l.length ≤ i) = false := decide_eq_false (by omega)
        have HSZI := hid hszi
        have HBW := hid hbw
        have hrl16 : n1 ≤ 32 := by omega
        have HN1 := hid hn1
        clear hst hst0 hx hfi hszi hF hn1 hlt1 hlt2 hts hbw y0 y1
        obtain ⟨g0, g1, g2, g3, y0, y1⟩ := HTS.out.cells
        go_upto_region 8 with fail
        go_cut [11, 12, 13] (fun pv kv ev wx => ∃ (T : Nat) (X0 : ByteArray) (a1 : Option Addr) (m1 k1 : Nat) (k e0 : Int), pv = .pointer (some ⟨T, 0, none⟩) ∧ kv = .int .i64 k ∧ ev = .int .i64 e0 ∧ Hid (Box2 wx T (.string X0) (.slice a1 m1 k1)) ∧ Hid (TG w wr d s b m fb (fo + i * 2) line (.slice A' F c') wx) ∧
          Hid (∃ (r : LectD) (q : LectA), lectVs r q = [.string X0, .slice a1 m1 k1] ∧ OneOut d s b m n rs line fs r k e0 ∧ (e0 = 0 → LectIn wx (fun k => wr.heap.size ≤ k ∧ k < wx.heap.size) r q)))
        case first =>
          have hk' : TG w wr d s b m fb (fo + i * 2) line (.slice A' F c') wr.drew := HTS.out.next (Below.refl _ wr).drew
          clear g0 g1 g2 g3 y0 y1
          go_region_held3 (fun w' => w'.cell? ⟨w.heap.size, 0, none⟩ = some (.int .i64 d) ∧ w'.cell? ⟨w.heap.size, 1, none⟩ = some (.int .i64 s) ∧ w'.cell? ⟨w.heap.size, 2, none⟩ = some (.int .i64 b) ∧ w'.cell? ⟨w.heap.size, 3, none⟩ = some (.int .i64 m) ∧ w'.cell? ⟨fb, fo + i * 2, none⟩ = some (.int .i64 line) ∧ w'.cell? ⟨fb, fo + i * 2 + 1, none⟩ = some (.slice A' F c'))
            (first | with_reducible exact hk'.cells | with_reducible exact (hk'.next ((Below.refl _ _).alloc (Nat.le_refl _) _)).cells | with_reducible exact (HTS.out.next (((Below.refl _ wr).alloc (Nat.le_refl _) _).drew)).cells | with_reducible exact (hk'.far (two_below _ _ _ _)).cells)
            (first
              | (go_at_call 50; refine (cR.out _ hk'.o).mono ?_; rintro e w' ⟨X0, a1, m1, k1, k, e0, rfl, hb', hro⟩; have hk' := hk'.next hb'
                 have HRO := hid hro
                 have HBB := hid hb'
                 clear hro hb')
              | (go_at_call 50; refine (cR.out _ (HTS.out.next (((Below.refl _ wr).alloc (Nat.le_refl _) (.cells #[.string ⟨#[]⟩, .slice none 0 0] 34)).drew)).o).mono ?_; rintro e w' ⟨X0, a1, m1, k1, k, e0, rfl, hb', hro⟩
                 have hT0 : Box2 w' wr.heap.size (.string ⟨#[]⟩) (.slice none 0 0) := (Box2.new wr (.string ⟨#[]⟩) (.slice none 0 0)).kept (hb'.block wr.heap.size (by show wr.heap.size < (wr.alloc _).heap.size; simp))
                 have HT0 := hid hT0
                 obtain ⟨z0, z1⟩ := hT0.cells
                 have f0 := hT0.free 0
                 have f1 := hT0.free 1
                 have hk' := (HTS.out.next (((Below.refl _ wr).alloc (Nat.le_refl _) (.cells #[.string ⟨#[]⟩, .slice none 0 0] 34)).drew)).next hb'
                 have HRO := hid hro
                 have HBB := hid hb'
                 clear hro hb' hT0))
          all_goals
            go_wp2_with fail
            go_meet
            first
            | with_reducible exact ⟨_, X0, a1, m1, k1, k, e0, rfl, rfl, rfl, hid (Box2.new _ _ _), hid (hk'.next ((Below.refl _ _).alloc (Nat.le_refl _) _)), hid (RoomAfterA HRO.out HBB.out)⟩
            | exact ⟨wr.heap.size, X0, a1, m1, k1, k, e0, rfl, rfl, rfl, hid (Box2.set HT0.out _ _), hid (hk'.far (two_below _ _ _ _)), hid (RoomAfterB HRO.out (by show (wr.alloc _).heap.size = wr.heap.size + 1; simp))⟩
        case rest =>
          obtain ⟨T, X0, a1, m1, k1, k, e0, rfl, rfl, rfl, hT, hS, hO⟩ := hcut
          have hIc := hI.out.under hS.out.o
          have HIC := hid hIc
          clear hIc g0 g1 g2 g3 y0 y1
          by_cases he : e0 = 0
          · subst he
            obtain ⟨r, q, hvs, hone, hin⟩ := hO.out
            have hin' := hin rfl
            have hrec : ∀ ps, recM d s b m n (rs, ps) (line, fs) = (rs ++ [r], ps) := by
              rcases hone with ⟨h, _⟩ | ⟨h, _⟩ | ⟨_, h⟩
              · exact absurd rfl h
              · exact absurd rfl h
              · exact h
            have HSTF : Hid (recsM d s b m n (l.take (i + 1)) = (rs ++ [r], ps)) := hid (by rw [HST.out, hrec])
            have HIN := hid hin'
            have HVS := hid hvs
            obtain ⟨Lr0, hL0, ho0, hr0⟩ := HIC.out.row
            have hl0 : Lr0.length = n1 := by rw [HN1.out, ← hL0, List.length_map]
            rw [hl0] at ho0
            have HO0 := hid ho0
            have HL0 := hid hL0
            have HLL0 := hid hl0
            have HRR := hid hr0
            have HMX : Hid (n1 + 1 ≤ maxLen) := hid (by unfold maxLen; omega)
            have HBY : Hid ((n1 + 1) * 40 ≤ 140737488355328) := hid (by omega)
            have HN5 : Hid (∀ (j : Nat) (u : Value), [Value.string X0, .slice a1 m1 k1][j]? = some u → (wc.alloc (.cells #[.string X0, .slice a1 m1 k1] 34)).cell? ((⟨wc.heap.size, 0, none⟩ : Addr).add j) = some u) := hid (two_cells wc _ _)
            have HON : Hid (∀ u ∈ [Value.string X0, .slice a1 m1 k1], u.oneCell' = true) := hid (by rw [← hvs]; exact lect_one r q)
            have hwc := HIC.out.below.size
            have HW4S : Hid (w1.heap.size ≤ (wc.alloc (.cells #[.string X0, .slice a1 m1 k1] 34)).heap.size) := hid (by simp; omega)
            have hoc := hS.out.o.size
            obtain ⟨z0, z1⟩ := hT.out.cells
            clear hvs hone hin hin' hrec hL0 ho0 hr0 hl0
            go_wp2_with (at_builtin; refine wpList_append_own_at _ rfl _ _ 22 rfl w1.heap.size 34 i5 (.agg #[.string ⟨#[]⟩, .slice none 0 0]) 2 40 Tryz.underlying22 hi5 hz5 hs5 hb5 rfl (by decide) _ n1 (lectVals Lr0) rfl (World.ownsRow.alloc HO0.out _) ⟨wc.heap.size, 0, none⟩ 1 1 [Value.string X0, .slice a1 m1 k1] rfl rfl HN5.out HON.out HMX.out HBY.out HW4S.out ?_)
            intro v' w5 hown' hgrow hnil hat
            obtain ⟨g', cap', rfl⟩ := ownsRow_succ (k := n1) hown'
            rw [← HVS.out] at hown'
            have hI5 := RInv.room (C := wr.heap.size) HIC.out HIN.out hwz HL1.out HL2.out HL0.out (by rw [HLL0.out]; exact HO0.out) HRR.out (v1' := .slice (some ⟨g', 0, none⟩) (n1 + 1) cap') (by rw [HLL0.out]; exact hown') (grownBy_of_alloc hgrow) (hat.imp id (fun h => ⟨_, h, by simp⟩))
            have HI5 : Hid (RInv w1 (recsM d s b m n (l.take (i + 1))).1 (recsM d s b m n (l.take (i + 1))).2 (.slice (some ⟨g', 0, none⟩) (n1 + 1) cap') (.slice A2 n2 c2) w5) := hid (by rw [HSTF.out]; exact hI5)
            clear hI5 hown' hgrow hnil hat z0 z1
            go_wp2_with fail
            go_roundw
            case rel => exact ⟨i + 1, _, _, _, _, _, _, rfl, rfl, by go_num, by omega, HI5⟩
            case measure => simp [RowKit.intOf]; omega
          · have hne : (e0 != 0) = true := by simpa using he
            obtain ⟨col, hfd, hrec⟩ : ∃ col, Calls Tryz.prog 51 #[.agg #[.int .i64 line, .slice A' F c'], .int .i64 k, .int .i64 e0] wc (FoundOut (.agg #[.int .i64 0, .int .i64 line, .int .i64 col, .int .i64 e0]) wc) ∧ ∀ ps, recM d s b m n (rs, ps) (line, fs) = (rs, ps ++ [(line, col, e0)]) := by
              obtain ⟨r, q, _, hone, _⟩ := hO.out
              rcases hone with ⟨_, rfl, h⟩ | ⟨_, ⟨j, hj, hj5, rfl, h⟩⟩ | ⟨h, _⟩
              · exact ⟨0, foundW_any line e0 A' F c' wc, h⟩
              · refine ⟨fs[j].2.1, ?_, h⟩
                have hz2 := HBW.out.size
                have hz3 := hS.out.o.size
                have h' := foundA_any line e0 j A' fs c' wc ((HFI.out.below (hS.out.o.mono hz2)).mono (fun k hk => by omega)) hj hj5
                rw [HF.out] at h'
                exact h'
              · exact absurd h he
            have HSTF : Hid (recsM d s b m n (l.take (i + 1)) = (rs, ps ++ [(line, col, e0)])) := hid (by rw [HST.out, hrec])
            have HFD := hid hfd
            have y0 := hS.out.c0
            have y1 := hS.out.c1
            have hpz : ps.length = n2 := by
              rcases HIC.out.probs.2 with ⟨hv, h0⟩ | ⟨g, cap, cur, hv, _⟩
              · injection hv with _ h1 _; omega
              · injection hv with _ h1 _; omega
            have hn2 : n2 ≤ 1073741824 := by omega
            have HPZ := hid hpz
            clear hfd hrec hpz he
            go_wp2_with fail
            refine HFD.out.mono ?_
            rintro e w4 ⟨rfl, hb4⟩
            have hI4 := HIC.out.under hb4
            have HI4 := hid hI4
            have HMX : Hid (n2 + 1 ≤ maxLen) := hid (by unfold maxLen; omega)
            have HBY : Hid ((n2 + 1) * 32 ≤ 140737488355328) := hid (by omega)
            have hprow : ProbsRow w4 w1.heap.size (.slice A2 n2 c2) ps := hI4.probs
            unfold ProbsRow at hprow
            rw [HPZ.out] at hprow
            have HPR := hid hprow
            have HN4 : Hid (∀ (j : Nat) (u : Value), (probVs (line, col, e0))[j]? = some u → (w4.alloc (.cells #[.int .i64 0, .int .i64 line, .int .i64 col, .int .i64 e0] 79)).cell? ((⟨w4.heap.size, 0, none⟩ : Addr).add j) = some u) := hid (four_new w4 0 line col e0 79)
            have HON : Hid (∀ u ∈ probVs (line, col, e0), u.oneCell' = true) := hid (times_one (0, line, col, e0))
            have hw4 := hI4.below.size
            have HW3S : Hid (w1.heap.size ≤ (w4.alloc (.cells #[.int .i64 0, .int .i64 line, .int .i64 col, .int .i64 e0] 79)).heap.size) := hid (by simp; omega)
            clear hprow hI4 hb4 y0 y1
            go_wp2_with (at_builtin; refine wpList_append_own_at _ rfl _ _ 43 rfl w1.heap.size 79 i4 (.agg #[.int .i64 0, .int .i64 0, .int .i64 0, .int .i64 0]) 4 32 Tryz.underlying43 hi4 hz4 hs4 hb4 rfl (by decide) _ n2 (probVals ps) rfl (World.ownsRow.alloc HPR.out _) ⟨w4.heap.size, 0, none⟩ 1 1 (probVs (line, col, e0)) rfl rfl HN4.out HON.out HMX.out HBY.out HW3S.out ?_)
            intro v' w5 hown' hgrow hnil hat
            obtain ⟨g', cap', rfl⟩ := ownsRow_succ (k := n2) hown'
            have hI5 := HI4.out.prob (p := (line, col, e0)) (v2' := .slice (some ⟨g', 0, none⟩) (n2 + 1) cap') (by unfold ProbsRow; rw [probVals_app, List.length_append, HPZ.out]; simpa [probVals] using hown') (grownBy_of_alloc hgrow) (hat.imp id (fun h => ⟨_, h, by simp⟩))
            have HI5 : Hid (RInv w1 (recsM d s b m n (l.take (i + 1))).1 (recsM d s b m n (l.take (i + 1))).2 (.slice A1 n1 c1) (.slice (some ⟨g', 0, none⟩) (n2 + 1) cap') w5) := hid (by rw [HSTF.out]; exact hI5)
            clear hI5 hown' hgrow hnil hat
            go_wp2_with fail
            go_roundw
            case rel => exact ⟨i + 1, _, _, _, _, _, _, rfl, rfl, by go_num, by omega, HI5⟩
            case measure => simp [RowKit.intOf]; omega
      · have hltz : ¬ (i : Int) < (l.length : Int) := by omega
        rw [List.take_of_length_le (by omega)] at hI
        obtain ⟨⟨Lr, hL, ho, hr⟩, hp, hb⟩ := hI.out
        have hll : Lr.length = (recsM d s b m n l).1.length := by rw [← hL, List.length_map]
        rw [hll] at ho
        have HR1 : Hid (LectRow wr w.heap.size (fun k => w.heap.size ≤ k ∧ k < wr.heap.size) (.slice A1 n1 c1) (recsM d s b m n l).1) := hid ⟨Lr, hL, TimeRow.low' ho (by omega), fun p hp' => (hr p hp').mono (fun k hk => ⟨by omega, hk.2.1⟩)⟩
        have HR2 : Hid (ProbsRow wr w.heap.size (.slice A2 n2 c2) (recsM d s b m n l).2) := hid (TimeRow.low' hp (by omega))
        have HR3 : Hid (Below w.heap.size w wr) := hid (HK1.out.b.trans (hb.mono (by omega)))
        clear hL ho hr hp hb hll
        go_wp2
        go_ret2
        exact ⟨_, _, rfl, HR1.out, HR2.out, HR3.out⟩
end Go.Proofs.YtnpfmoalgphkcaaGreatDoor.S9
