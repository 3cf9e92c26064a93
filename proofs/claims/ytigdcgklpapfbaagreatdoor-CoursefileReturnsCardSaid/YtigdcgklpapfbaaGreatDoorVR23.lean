/-
  The record of a class: writeFields of coursefile. Conditions: the class lies in memory, its lists are short; the variables hold what their text lays.
  Sets of weeks of a class; a class alone: arePatterns, check of coursefile, the closure of Valid. Conditions: the class lies in memory.
  A class alone: check of coursefile, the closure of Valid. Conditions: the class lies in memory.
-/
import Derived.Test.YtigdcgklpapfbaaGreatDoorVR21
import Derived.Test.YtigdcgklpapfbaaGreatDoorVR22
set_option linter.unusedVariables false
namespace Go.Proofs.YtigdcgklpapfbaaGreatDoor.S10
open Go Go.Proofs Go.RowKit Go.Lib Go.Proofs.YtigdcgklpapfbaaGreatDoor

def rowK (d s b m n : Int) (x : ClassD) : List Str := [x.code, x.course, x.part, decDigits x.len.toNat, patsS n x.pats, decDigits x.seats.toNat, featsS x.feats, featsS x.staff, startsS d s b m x.starts]

set_option maxHeartbeats 16000000 in
set_option maxRecDepth 100000 in
theorem kfields_any (d s b m n : Int) (x : ClassD) (q : ClassA) (w : World) (h : ClassIn w (fun k => k < w.heap.size) x q) (hin : ∀ t ∈ x.starts, t.2 ≤ 9223372036854775807)
    (hl0 : 0 ≤ x.len) (hl1 : x.len ≤ 9999) (hs0 : 0 ≤ x.seats) (hs1 : x.seats ≤ 9999) (h8 : x.pats.length ≤ 8) (h24 : x.starts.length ≤ 24) (hE : Env7 w) :
    Calls Tryz.prog 35 #[clsV x q, .agg #[.int .i64 d, .int .i64 s, .int .i64 b, .int .i64 m], .int .i64 n] w (S3.RowOut (rowK d s b m n x) w) := by
  obtain ⟨c0, c1, c2, len, pats, seats, feats, staff, starts⟩ := x
  obtain ⟨aP, cP, aF, cF, aS, cS, aT, cT⟩ := q
  obtain ⟨hp, hf, hs, ht, p1, p2, f1, f2, s1, s2, t1, t2⟩ := h
  dsimp only at hp hf hs ht p1 p2 f1 f2 s1 s2 t1 t2 hin hl0 hl1 hs0 hs1 h8 h24
  unfold clsV rowK S3.RowOut
  dsimp only
  have hk0 := KT.first w #[.string (ba c0), .string (ba c1), .string (ba c2), .int .i64 len, .slice aP pats.length cP, .int .i64 seats, .slice aF feats.length cF, .slice aS staff.length cS, .slice aT starts.length cT] d s b m
  have low : ∀ W, Below w.heap.size w W → ∀ k, k < w.heap.size → k < W.heap.size := fun W hb k hk => Nat.lt_of_lt_of_le hk hb.size
  have env : ∀ W, Below w.heap.size w W → Env7 W := fun W hb => hE.below hb (Nat.le_refl _)
  have cL := fun (W : World) (hb : Below w.heap.size w W) => itoa4_any len hl0 hl1 W (env W hb).s
  have cE := fun (W : World) (hb : Below w.heap.size w W) => itoa4_any seats hs0 hs1 W (env W hb).s
  have cA := fun (W : World) (hb : Below w.heap.size w W) => writePatterns_any n aP pats cP W ((hp.below hb).mono (low W hb)) h8 (env W hb)
  have cB := fun (W : World) (hb : Below w.heap.size w W) => cwrite_any aF feats cF W ((S3.StrsIn.below hf hb).mono (low W hb)) f1 f2 (env W hb).s
  have cC := fun (W : World) (hb : Below w.heap.size w W) => cwrite_any aS staff cS W ((S3.StrsIn.below hs hb).mono (low W hb)) s1 s2 (env W hb).s
  have cD := fun (W : World) (hb : Below w.heap.size w W) => writeStarts_any d s b m aT starts cT W ((ht.below hb).mono (low W hb)) hin h24 (env W hb)
  unfold Says at cL cE cA cB cC cD
  obtain ⟨X0, hX0⟩ : ∃ X, ba (c0) = X := ⟨_, rfl⟩
  obtain ⟨X1, hX1⟩ : ∃ X, ba (c1) = X := ⟨_, rfl⟩
  obtain ⟨X2, hX2⟩ : ∃ X, ba (c2) = X := ⟨_, rfl⟩
  obtain ⟨X3, hX3⟩ : ∃ X, ba (decDigits len.toNat) = X := ⟨_, rfl⟩
  obtain ⟨X4, hX4⟩ : ∃ X, ba (patsS n pats) = X := ⟨_, rfl⟩
  obtain ⟨X5, hX5⟩ : ∃ X, ba (decDigits seats.toNat) = X := ⟨_, rfl⟩
  obtain ⟨X6, hX6⟩ : ∃ X, ba (featsS feats) = X := ⟨_, rfl⟩
  obtain ⟨X7, hX7⟩ : ∃ X, ba (featsS staff) = X := ⟨_, rfl⟩
  obtain ⟨X8, hX8⟩ : ∃ X, ba (startsS d s b m starts) = X := ⟨_, rfl⟩
  have hrow : Hid (S3.strVals [c0, c1, c2, decDigits len.toNat, patsS n pats, decDigits seats.toNat, featsS feats, featsS staff, startsS d s b m starts] = [.string X0, .string X1, .string X2, .string X3, .string X4, .string X5, .string X6, .string X7, .string X8]) := hid (by rw [← hX0, ← hX1, ← hX2, ← hX3, ← hX4, ← hX5, ← hX6, ← hX7, ← hX8]; rfl)
  obtain ⟨nP, hnP⟩ : ∃ F, pats.length = F := ⟨_, rfl⟩
  obtain ⟨nF, hnF⟩ : ∃ F, feats.length = F := ⟨_, rfl⟩
  obtain ⟨nS, hnS⟩ : ∃ F, staff.length = F := ⟨_, rfl⟩
  obtain ⟨nT, hnT⟩ : ∃ F, starts.length = F := ⟨_, rfl⟩
  rw [hX0, hX1, hX2, hnP, hnF, hnS, hnT] at hk0 ⊢
  rw [hX3] at cL
  rw [hX5] at cE
  rw [hX4, hnP] at cA
  rw [hX6, hnF] at cB
  rw [hX7, hnS] at cC
  rw [hX8, hnT] at cD
  have CL := hid cL
  have CE := hid cE
  have CA := hid cA
  have CB := hid cB
  have CC := hid cC
  have CD := hid cD
  have HK0 := hid hk0
  clear cL cE cA cB cC cD hk0 hX0 hX1 hX2 hX3 hX4 hX5 hX6 hX7 hX8 hnP hnF hnS hnT low env hE hp hf hs ht p1 p2 f1 f2 s1 s2 t1 t2 hin hl0 hl1 hs0 hs1 h8 h24
  go_enter Tryz.func35, Tryz.ntmps35
  go_wp2_with fail
  have hk := HK0.out
  clear HK0
  generalize World.alloc _ _ = wx at hk ⊢
  have HK1 := hid hk
  clear hk
  refine wp_region_held_drew (S := KT w #[.string X0, .string X1, .string X2, .int .i64 len, .slice aP nP cP, .int .i64 seats, .slice aF nF cF, .slice aS nS cS, .slice aT nT cT] d s b m) (by kernel_rfl) (HK1.out.next (Below.refl _ _).drew) (fun hHeld => ?_)
  (refine wpAnyH_take (i := 0) (oi := _) (v := ?_) rfl (by kernel_rfl) (by kernel_rfl) (by kernel_rfl) (fun _ _ _ h => h) (Or.inl ⟨by rfl, ?_⟩) (by assumption) ?_; rotate_left; (intro wS hSw; obtain ⟨⟨x0, x1, x2, x3, x4, x5, x6, x7, x8⟩, ⟨g0, g1, g2, g3, _⟩⟩ := And.intro hSw.x.cells hSw.g; (try simp only [List.getElem_toArray, List.getElem_cons_zero]); go_simp; (try with_reducible rfl)))
  try simp only [List.getElem_toArray, List.getElem_cons_zero, Act.put, List.setIfInBounds_toArray, List.set_cons_zero, List.set_cons_succ]
  (refine wpAnyH_take (i := 1) (oi := _) (v := ?_) rfl (by kernel_rfl) (by kernel_rfl) (by kernel_rfl) (fun _ _ _ h => h) (Or.inl ⟨by rfl, ?_⟩) (by assumption) ?_; rotate_left; (intro wS hSw; obtain ⟨⟨x0, x1, x2, x3, x4, x5, x6, x7, x8⟩, ⟨g0, g1, g2, g3, _⟩⟩ := And.intro hSw.x.cells hSw.g; (try simp only [List.getElem_toArray, List.getElem_cons_succ, List.getElem_cons_zero]); go_simp; (try with_reducible rfl)))
  try simp only [List.getElem_toArray, List.getElem_cons_succ, List.getElem_cons_zero, Act.put, List.setIfInBounds_toArray, List.set_cons_zero, List.set_cons_succ]
  (refine wpAnyH_take (i := 2) (oi := _) (v := ?_) rfl (by kernel_rfl) (by kernel_rfl) (by kernel_rfl) (fun _ _ _ h => h) (Or.inl ⟨by rfl, ?_⟩) (by assumption) ?_; rotate_left; (intro wS hSw; obtain ⟨⟨x0, x1, x2, x3, x4, x5, x6, x7, x8⟩, ⟨g0, g1, g2, g3, _⟩⟩ := And.intro hSw.x.cells hSw.g; (try simp only [List.getElem_toArray, List.getElem_cons_succ, List.getElem_cons_zero]); go_simp; (try with_reducible rfl)))
  try simp only [List.getElem_toArray, List.getElem_cons_succ, List.getElem_cons_zero, Act.put, List.setIfInBounds_toArray, List.set_cons_zero, List.set_cons_succ]
  (refine wpAnyH_take (i := 3) (oi := _) (v := ?_) rfl (by kernel_rfl) (by kernel_rfl) (by kernel_rfl) (fun _ _ _ h => h) (Or.inl ⟨by rfl, ?_⟩) (by assumption) ?_; rotate_left; (intro wS hSw; obtain ⟨⟨x0, x1, x2, x3, x4, x5, x6, x7, x8⟩, ⟨g0, g1, g2, g3, _⟩⟩ := And.intro hSw.x.cells hSw.g; (try simp only [List.getElem_toArray, List.getElem_cons_succ, List.getElem_cons_zero]); go_simp; (try with_reducible rfl)))
  try simp only [List.getElem_toArray, List.getElem_cons_succ, List.getElem_cons_zero, Act.put, List.setIfInBounds_toArray, List.set_cons_zero, List.set_cons_succ]
  (refine wpAnyH_take (i := 4) (oi := _) (v := ?_) rfl (by kernel_rfl) (by kernel_rfl) (by kernel_rfl) (fun _ _ _ h => h) (Or.inl ⟨by rfl, ?_⟩) (by assumption) ?_; rotate_left; (intro wS hSw; obtain ⟨⟨x0, x1, x2, x3, x4, x5, x6, x7, x8⟩, ⟨g0, g1, g2, g3, _⟩⟩ := And.intro hSw.x.cells hSw.g; (try simp only [List.getElem_toArray, List.getElem_cons_succ, List.getElem_cons_zero]); go_simp; (try with_reducible rfl)))
  try simp only [List.getElem_toArray, List.getElem_cons_succ, List.getElem_cons_zero, Act.put, List.setIfInBounds_toArray, List.set_cons_zero, List.set_cons_succ]
  (refine wpAnyH_take (i := 5) (oi := _) (v := ?_) rfl (by kernel_rfl) (by kernel_rfl) (by kernel_rfl) (fun _ _ _ h => h) (Or.inl ⟨by rfl, ?_⟩) (by assumption) ?_; rotate_left; (intro wS hSw; obtain ⟨⟨x0, x1, x2, x3, x4, x5, x6, x7, x8⟩, ⟨g0, g1, g2, g3, _⟩⟩ := And.intro hSw.x.cells hSw.g; (try simp only [List.getElem_toArray, List.getElem_cons_succ, List.getElem_cons_zero]); go_simp; (try with_reducible rfl)))
  try simp only [List.getElem_toArray, List.getElem_cons_succ, List.getElem_cons_zero, Act.put, List.setIfInBounds_toArray, List.set_cons_zero, List.set_cons_succ]
  (refine wpAnyH_take (i := 6) (oi := _) (v := ?_) rfl (by kernel_rfl) (by kernel_rfl) (by kernel_rfl) (fun _ _ _ h => h) (Or.inl ⟨by rfl, ?_⟩) (by assumption) ?_; rotate_left; (intro wS hSw; obtain ⟨⟨x0, x1, x2, x3, x4, x5, x6, x7, x8⟩, ⟨g0, g1, g2, g3, _⟩⟩ := And.intro hSw.x.cells hSw.g; (try simp only [List.getElem_toArray, List.getElem_cons_succ, List.getElem_cons_zero]); go_simp; (try with_reducible rfl)))
  try simp only [List.getElem_toArray, List.getElem_cons_succ, List.getElem_cons_zero, Act.put, List.setIfInBounds_toArray, List.set_cons_zero, List.set_cons_succ]
  (refine wpAnyH_take (i := 7) (oi := _) (v := ?_) rfl (by kernel_rfl) (by kernel_rfl) (by kernel_rfl) (fun _ _ _ h => h) (Or.inl ⟨by rfl, ?_⟩) (by assumption) ?_; rotate_left; (intro wS hSw; obtain ⟨⟨x0, x1, x2, x3, x4, x5, x6, x7, x8⟩, ⟨g0, g1, g2, g3, _⟩⟩ := And.intro hSw.x.cells hSw.g; (try simp only [List.getElem_toArray, List.getElem_cons_succ, List.getElem_cons_zero]); go_simp; (try with_reducible rfl)))
  try simp only [List.getElem_toArray, List.getElem_cons_succ, List.getElem_cons_zero, Act.put, List.setIfInBounds_toArray, List.set_cons_zero, List.set_cons_succ]
  (refine wpAnyH_take (i := 9) (oi := _) (v := ?_) rfl (by kernel_rfl) (by kernel_rfl) (by kernel_rfl) (fun _ _ _ h => h) (Or.inl ⟨by rfl, ?_⟩) (by assumption) ?_; rotate_left; (intro wS hSw; obtain ⟨⟨x0, x1, x2, x3, x4, x5, x6, x7, x8⟩, ⟨g0, g1, g2, g3, _⟩⟩ := And.intro hSw.x.cells hSw.g; (try simp only [List.getElem_toArray, List.getElem_cons_succ, List.getElem_cons_zero]); go_simp; (try with_reducible rfl)))
  try simp only [List.getElem_toArray, List.getElem_cons_succ, List.getElem_cons_zero, Act.put, List.setIfInBounds_toArray, List.set_cons_zero, List.set_cons_succ]
  (refine wpAnyH_take (i := 10) (oi := _) (v := ?_) rfl (by kernel_rfl) (by kernel_rfl) (by kernel_rfl) (fun _ _ _ h => h) (Or.inl ⟨by rfl, ?_⟩) (by assumption) ?_; rotate_left; (intro wS hSw; obtain ⟨⟨x0, x1, x2, x3, x4, x5, x6, x7, x8⟩, ⟨g0, g1, g2, g3, _⟩⟩ := And.intro hSw.x.cells hSw.g; (try simp only [List.getElem_toArray, List.getElem_cons_succ, List.getElem_cons_zero]); go_simp; (try with_reducible rfl)))
  try simp only [List.getElem_toArray, List.getElem_cons_succ, List.getElem_cons_zero, Act.put, List.setIfInBounds_toArray, List.set_cons_zero, List.set_cons_succ]
  (refine wpAnyH_take (i := 11) (oi := _) (v := ?_) rfl (by kernel_rfl) (by kernel_rfl) (by kernel_rfl) (fun _ _ _ h => h) (Or.inl ⟨by rfl, ?_⟩) (by assumption) ?_; rotate_left; (intro wS hSw; obtain ⟨⟨x0, x1, x2, x3, x4, x5, x6, x7, x8⟩, ⟨g0, g1, g2, g3, _⟩⟩ := And.intro hSw.x.cells hSw.g; (try simp only [List.getElem_toArray, List.getElem_cons_succ, List.getElem_cons_zero]); go_simp; (try with_reducible rfl)))
  try simp only [List.getElem_toArray, List.getElem_cons_succ, List.getElem_cons_zero, Act.put, List.setIfInBounds_toArray, List.set_cons_zero, List.set_cons_succ]
  (refine wpAnyH_take (i := 13) (oi := _) (v := ?_) rfl (by kernel_rfl) (by kernel_rfl) (by kernel_rfl) (fun _ _ _ h => h) (Or.inl ⟨by rfl, ?_⟩) (by assumption) ?_; rotate_left; (intro wS hSw; obtain ⟨⟨x0, x1, x2, x3, x4, x5, x6, x7, x8⟩, ⟨g0, g1, g2, g3, _⟩⟩ := And.intro hSw.x.cells hSw.g; (try simp only [List.getElem_toArray, List.getElem_cons_succ, List.getElem_cons_zero]); go_simp; (try with_reducible rfl)))
  try simp only [List.getElem_toArray, List.getElem_cons_succ, List.getElem_cons_zero, Act.put, List.setIfInBounds_toArray, List.set_cons_zero, List.set_cons_succ]
  (refine wpAnyH_take (i := 14) (oi := _) (v := ?_) rfl (by kernel_rfl) (by kernel_rfl) (by kernel_rfl) (fun _ _ _ h => h) (Or.inl ⟨by rfl, ?_⟩) (by assumption) ?_; rotate_left; (intro wS hSw; obtain ⟨⟨x0, x1, x2, x3, x4, x5, x6, x7, x8⟩, ⟨g0, g1, g2, g3, _⟩⟩ := And.intro hSw.x.cells hSw.g; (try simp only [List.getElem_toArray, List.getElem_cons_succ, List.getElem_cons_zero]); go_simp; (try with_reducible rfl)))
  try simp only [List.getElem_toArray, List.getElem_cons_succ, List.getElem_cons_zero, Act.put, List.setIfInBounds_toArray, List.set_cons_zero, List.set_cons_succ]
  (refine wpAnyH_take (i := 16) (oi := _) (v := ?_) rfl (by kernel_rfl) (by kernel_rfl) (by kernel_rfl) (fun _ _ _ h => h) (Or.inl ⟨by rfl, ?_⟩) (by assumption) ?_; rotate_left; (intro wS hSw; obtain ⟨⟨x0, x1, x2, x3, x4, x5, x6, x7, x8⟩, ⟨g0, g1, g2, g3, _⟩⟩ := And.intro hSw.x.cells hSw.g; (try simp only [List.getElem_toArray, List.getElem_cons_succ, List.getElem_cons_zero]); go_simp; (try with_reducible rfl)))
  try simp only [List.getElem_toArray, List.getElem_cons_succ, List.getElem_cons_zero, Act.put, List.setIfInBounds_toArray, List.set_cons_zero, List.set_cons_succ]
  (refine wpAnyH_take (i := 17) (oi := _) (v := ?_) rfl (by kernel_rfl) (by kernel_rfl) (by kernel_rfl) (fun _ _ _ h => h) (Or.inl ⟨by rfl, ?_⟩) (by assumption) ?_; rotate_left; (intro wS hSw; obtain ⟨⟨x0, x1, x2, x3, x4, x5, x6, x7, x8⟩, ⟨g0, g1, g2, g3, _⟩⟩ := And.intro hSw.x.cells hSw.g; (try simp only [List.getElem_toArray, List.getElem_cons_succ, List.getElem_cons_zero]); go_simp; (try with_reducible rfl)))
  try simp only [List.getElem_toArray, List.getElem_cons_succ, List.getElem_cons_zero, Act.put, List.setIfInBounds_toArray, List.set_cons_zero, List.set_cons_succ]
  (refine wpAnyH_take (i := 19) (oi := _) (v := ?_) rfl (by kernel_rfl) (by kernel_rfl) (by kernel_rfl) (fun _ _ _ h => h) (Or.inl ⟨by rfl, ?_⟩) (by assumption) ?_; rotate_left; (intro wS hSw; obtain ⟨⟨x0, x1, x2, x3, x4, x5, x6, x7, x8⟩, ⟨g0, g1, g2, g3, _⟩⟩ := And.intro hSw.x.cells hSw.g; (try simp only [List.getElem_toArray, List.getElem_cons_succ, List.getElem_cons_zero]); go_simp; (try with_reducible rfl)))
  try simp only [List.getElem_toArray, List.getElem_cons_succ, List.getElem_cons_zero, Act.put, List.setIfInBounds_toArray, List.set_cons_zero, List.set_cons_succ]
  (refine wpAnyH_take (i := 20) (oi := _) (v := ?_) rfl (by kernel_rfl) (by kernel_rfl) (by kernel_rfl) (fun _ _ _ h => h) (Or.inl ⟨by rfl, ?_⟩) (by assumption) ?_; rotate_left; (intro wS hSw; obtain ⟨⟨x0, x1, x2, x3, x4, x5, x6, x7, x8⟩, ⟨g0, g1, g2, g3, _⟩⟩ := And.intro hSw.x.cells hSw.g; (try simp only [List.getElem_toArray, List.getElem_cons_succ, List.getElem_cons_zero]); go_simp; (try with_reducible rfl)))
  try simp only [List.getElem_toArray, List.getElem_cons_succ, List.getElem_cons_zero, Act.put, List.setIfInBounds_toArray, List.set_cons_zero, List.set_cons_succ]
  (refine wpAnyH_take (i := 22) (oi := _) (v := ?_) rfl (by kernel_rfl) (by kernel_rfl) (by kernel_rfl) (fun _ _ _ h => h) (Or.inl ⟨by rfl, ?_⟩) (by assumption) ?_; rotate_left; (intro wS hSw; obtain ⟨⟨x0, x1, x2, x3, x4, x5, x6, x7, x8⟩, ⟨g0, g1, g2, g3, _⟩⟩ := And.intro hSw.x.cells hSw.g; (try simp only [List.getElem_toArray, List.getElem_cons_succ, List.getElem_cons_zero]); go_simp; (try with_reducible rfl)))
  try simp only [List.getElem_toArray, List.getElem_cons_succ, List.getElem_cons_zero, Act.put, List.setIfInBounds_toArray, List.set_cons_zero, List.set_cons_succ]
  (refine wpAnyH_take (i := 23) (oi := _) (v := ?_) rfl (by kernel_rfl) (by kernel_rfl) (by kernel_rfl) (fun _ _ _ h => h) (Or.inl ⟨by rfl, ?_⟩) (by assumption) ?_; rotate_left; (intro wS hSw; obtain ⟨⟨x0, x1, x2, x3, x4, x5, x6, x7, x8⟩, ⟨g0, g1, g2, g3, _⟩⟩ := And.intro hSw.x.cells hSw.g; (try simp only [List.getElem_toArray, List.getElem_cons_succ, List.getElem_cons_zero]); go_simp; (try with_reducible rfl)))
  try simp only [List.getElem_toArray, List.getElem_cons_succ, List.getElem_cons_zero, Act.put, List.setIfInBounds_toArray, List.set_cons_zero, List.set_cons_succ]
  (refine wpAnyH_take (i := 24) (oi := _) (v := ?_) rfl (by kernel_rfl) (by kernel_rfl) (by kernel_rfl) (fun _ _ _ h => h) (Or.inl ⟨by rfl, ?_⟩) (by assumption) ?_; rotate_left; (intro wS hSw; obtain ⟨⟨x0, x1, x2, x3, x4, x5, x6, x7, x8⟩, ⟨g0, g1, g2, g3, _⟩⟩ := And.intro hSw.x.cells hSw.g; (try simp only [List.getElem_toArray, List.getElem_cons_succ, List.getElem_cons_zero]); go_simp; (try with_reducible rfl)))
  try simp only [List.getElem_toArray, List.getElem_cons_succ, List.getElem_cons_zero, Act.put, List.setIfInBounds_toArray, List.set_cons_zero, List.set_cons_succ]
  (refine wpAnyH_ready (rs := [8]) (by kernel_rfl) (by simp) ?_; refine AllReadyH.cons (o := _) rfl (fun K hK => ?_) AllReadyH.nil; (try simp only [List.getElem_toArray, List.getElem_cons_succ, List.getElem_cons_zero]); go_simp; go_at_call 66; refine (CL.out _ hHeld.b).mono ?_; rintro e wz ⟨rfl, hbz⟩; have hHeld := hHeld.next hbz; have HWZ := hid hHeld.b.size; clear hbz; go_wp2_with fail; refine hK.out _ _ hHeld (fun hHeld => ?_); clear hK K)
  try simp only [List.getElem_toArray, List.getElem_cons_succ, List.getElem_cons_zero, Act.put, List.setIfInBounds_toArray, List.set_cons_zero, List.set_cons_succ]
  (refine wpAnyH_ready (rs := [12]) (by kernel_rfl) (by simp) ?_; refine AllReadyH.cons (o := _) rfl (fun K hK => ?_) AllReadyH.nil; (try simp only [List.getElem_toArray, List.getElem_cons_succ, List.getElem_cons_zero]); go_simp; go_at_call 67; refine (CA.out _ hHeld.b).mono ?_; rintro e wz ⟨rfl, hbz⟩; have hHeld := hHeld.next hbz; have HWZ := hid hHeld.b.size; clear hbz; go_wp2_with fail; refine hK.out _ _ hHeld (fun hHeld => ?_); clear hK K)
  try simp only [List.getElem_toArray, List.getElem_cons_succ, List.getElem_cons_zero, Act.put, List.setIfInBounds_toArray, List.set_cons_zero, List.set_cons_succ]
  (refine wpAnyH_ready (rs := [15]) (by kernel_rfl) (by simp) ?_; refine AllReadyH.cons (o := _) rfl (fun K hK => ?_) AllReadyH.nil; (try simp only [List.getElem_toArray, List.getElem_cons_succ, List.getElem_cons_zero]); go_simp; go_at_call 66; refine (CE.out _ hHeld.b).mono ?_; rintro e wz ⟨rfl, hbz⟩; have hHeld := hHeld.next hbz; have HWZ := hid hHeld.b.size; clear hbz; go_wp2_with fail; refine hK.out _ _ hHeld (fun hHeld => ?_); clear hK K)
  try simp only [List.getElem_toArray, List.getElem_cons_succ, List.getElem_cons_zero, Act.put, List.setIfInBounds_toArray, List.set_cons_zero, List.set_cons_succ]
  (refine wpAnyH_ready (rs := [18]) (by kernel_rfl) (by simp) ?_; refine AllReadyH.cons (o := _) rfl (fun K hK => ?_) AllReadyH.nil; (try simp only [List.getElem_toArray, List.getElem_cons_succ, List.getElem_cons_zero]); go_simp; go_at_call 68; refine (CB.out _ hHeld.b).mono ?_; rintro e wz ⟨rfl, hbz⟩; have hHeld := hHeld.next hbz; have HWZ := hid hHeld.b.size; clear hbz; go_wp2_with fail; refine hK.out _ _ hHeld (fun hHeld => ?_); clear hK K)
  try simp only [List.getElem_toArray, List.getElem_cons_succ, List.getElem_cons_zero, Act.put, List.setIfInBounds_toArray, List.set_cons_zero, List.set_cons_succ]
  (refine wpAnyH_ready (rs := [21]) (by kernel_rfl) (by simp) ?_; refine AllReadyH.cons (o := _) rfl (fun K hK => ?_) AllReadyH.nil; (try simp only [List.getElem_toArray, List.getElem_cons_succ, List.getElem_cons_zero]); go_simp; go_at_call 68; refine (CC.out _ hHeld.b).mono ?_; rintro e wz ⟨rfl, hbz⟩; have hHeld := hHeld.next hbz; have HWZ := hid hHeld.b.size; clear hbz; go_wp2_with fail; refine hK.out _ _ hHeld (fun hHeld => ?_); clear hK K)
  try simp only [List.getElem_toArray, List.getElem_cons_succ, List.getElem_cons_zero, Act.put, List.setIfInBounds_toArray, List.set_cons_zero, List.set_cons_succ]
  (refine wpAnyH_ready (rs := [25]) (by kernel_rfl) (by simp) ?_; refine AllReadyH.cons (o := _) rfl (fun K hK => ?_) AllReadyH.nil; (try simp only [List.getElem_toArray, List.getElem_cons_succ, List.getElem_cons_zero]); go_simp; go_at_call 69; refine (CD.out _ hHeld.b).mono ?_; rintro e wz ⟨rfl, hbz⟩; have hHeld := hHeld.next hbz; have HWZ := hid hHeld.b.size; clear hbz; go_wp2_with fail; refine hK.out _ _ hHeld (fun hHeld => ?_); clear hK K)
  try simp only [List.getElem_toArray, List.getElem_cons_succ, List.getElem_cons_zero, Act.put, List.setIfInBounds_toArray, List.set_cons_zero, List.set_cons_succ]
  (refine wpAnyH_ready (rs := [26]) (by kernel_rfl) (by simp) ?_; refine AllReadyH.cons (o := _) rfl (fun K hK => ?_) AllReadyH.nil; (try simp only [List.getElem_toArray, List.getElem_cons_succ, List.getElem_cons_zero]); go_simp; go_wp2_with fail; refine hK.out _ _ (hHeld.next ((Below.refl _ _).alloc (Nat.le_refl _) _)) (fun hHeld => ?_); clear hK K)
  try simp only [List.getElem_toArray, List.getElem_cons_succ, List.getElem_cons_zero, Act.put, List.setIfInBounds_toArray, List.set_cons_zero, List.set_cons_succ]
  (refine wpAnyH_take (i := 27) (oi := _) (v := ?_) rfl (by kernel_rfl) (by kernel_rfl) (by kernel_rfl) (fun _ _ _ h => h) (Or.inl ⟨by rfl, ?_⟩) (by assumption) ?_; rotate_left; (intro wS hSw; obtain ⟨⟨x0, x1, x2, x3, x4, x5, x6, x7, x8⟩, ⟨g0, g1, g2, g3, _⟩⟩ := And.intro hSw.x.cells hSw.g; (try simp only [List.getElem_toArray, List.getElem_cons_succ, List.getElem_cons_zero]); go_simp; (try with_reducible rfl)))
  try simp only [List.getElem_toArray, List.getElem_cons_succ, List.getElem_cons_zero, Act.put, List.setIfInBounds_toArray, List.set_cons_zero, List.set_cons_succ]
  refine wpAnyH_done (by kernel_rfl) ?_ _
  go_wp2_with fail
  go_ret
  refine ⟨⟨_, rfl, ?_⟩, hHeld.b⟩
  unfold S3.StrRow
  rw [hrow.out]
  exact World.ownsRow_lit wz #[.string X0, .string X1, .string X2, .string X3, .string X4, .string X5, .string X6, .string X7, .string X8] 9 HWZ.out (by decide) rfl
end Go.Proofs.YtigdcgklpapfbaaGreatDoor.S10

set_option linter.unusedVariables false
namespace Go.Proofs.YtigdcgklpapfbaaGreatDoor.S10
open Go Go.Proofs Go.RowKit Go.Lib Go.Proofs.YtigdcgklpapfbaaGreatDoor

set_option maxHeartbeats 2000000 in
theorem wrongSet_any (p n : Int) (N : Nat) (W : World) (hN : W.cell? ⟨N, 0, none⟩ = some (.int .i64 n)) :
    Calls Tryz.prog 110 (#[.int .i64 p] ++ #[.pointer (some ⟨N, 0, none⟩)]) W fun e w' => e = .returned (.bool (!validM p n)) ∧ ∃ q, w' = W.drewN q := by
  have cV := fun w => valid_any p n w
  obtain ⟨V, hV⟩ : ∃ V, validM p n = V := ⟨_, rfl⟩
  rw [hV] at cV ⊢
  simp only [List.append_toArray, List.cons_append, List.nil_append]
  go_enter Tryz.func110, Tryz.ntmps110
  go_wp2_with fail
  refine (cV _).mono ?_
  rintro e w' ⟨rfl, q, rfl⟩
  go_wp2
  go_ret
  exact ⟨rfl, q, rfl⟩
theorem all_any (l : List Int) (n : Int) : l.any (fun p => !validM p n) = !l.all (fun p => validM p n) := by
  rw [← List.not_all_eq_any_not]

set_option maxHeartbeats 4000000 in
set_option maxRecDepth 100000 in
theorem arePatterns_any (A : Option Addr) (l : List Int) (c : Nat) (n : Int) (w : World) (h : NumsIn w (fun k => k < w.heap.size) A l) (hlc : l.length ≤ c) (hc : c ≤ 9223372036854775807) :
    Calls Tryz.prog 76 #[.slice A l.length c, .int .i64 n] w (Says (.bool (patsB n l)) w) := by
  have hb1 := (Below.refl w.heap.size w).alloc (Nat.le_refl _) (.cells #[.int .i64 n] 3)
  have hB1 := Box1.new w 3 (.int .i64 n)
  have h1 := h.below hb1
  have eg : ∀ args w, (callFunc 110 args).run Tryz.prog w = .ok (.enter 110 args) w := enters_of Tryz.func110 (by kernel_rfl) rfl
  obtain ⟨w1, hw1⟩ : ∃ w1, w.alloc (.cells #[.int .i64 n] 3) = w1 := ⟨_, rfl⟩
  rw [hw1] at hb1 hB1 h1
  have cH := fun (W : World) (hb : Below w1.heap.size w1 W) => hasEqualI_any A l c _ W ((h1.mono (fun k hk => Nat.lt_of_lt_of_le hk hb1.size)).below hb) hlc hc
  have cC : Calls Tryz.prog 112 #[.slice A l.length c, .func (.func 110) #[] #[.pointer (some ⟨w.heap.size, 0, none⟩)]] w1 fun e w' => e = .returned (.bool (!l.all (fun p => validM p n))) ∧ Below w1.heap.size w1 w' := by
    rcases h1 with h1 | ⟨b, off, rfl, hb, hcs⟩
    · have hl : l = [] := by
        have := intVals_len l
        rw [h1] at this
        exact List.eq_nil_of_length_eq_zero this.symm
      subst hl
      refine (Tryz.slices_ContainsFunc_empty (α := Int) A c _ w1).mono ?_
      rintro e w' ⟨rfl, rfl⟩
      exact ⟨rfl, Below.refl _ _⟩
    · have hcon := Tryz.slices_ContainsFunc (fun x : Int => .int .i64 x) (fun p => !validM p n) 110 #[.pointer (some ⟨w.heap.size, 0, none⟩)] eg b off l.length c l w1
        (fun W x hb => wrongSet_any x n w.heap.size W (hB1.below hb hB1.lt).cell) (Nat.le_refl _) (by omega) (fun j hj => by
          rw [getElem!_pos l j hj]
          exact hcs j _ (by simp [intVals, hj]))
      rw [List.take_of_length_le (Nat.le_refl _), all_any] at hcon
      refine hcon.mono ?_
      rintro e w' ⟨rfl, q, rfl⟩
      exact ⟨rfl, S3.below_drewN (Below.refl _ _) q⟩
  obtain ⟨R, hR⟩ : ∃ R, patsB n l = R := ⟨_, rfl⟩
  unfold Says
  rw [hR]
  unfold patsB at hR
  obtain ⟨U, hU⟩ : ∃ U, l.all (fun p => validM p n) = U := ⟨_, rfl⟩
  obtain ⟨D, hD⟩ : ∃ D, dupB l = D := ⟨_, rfl⟩
  rw [hU] at cC hR
  rw [hD] at cH hR
  have HB1 := hid hb1
  have CH := hid cH
  have CC := hid cC
  have HW1 := hid hw1
  clear cH cC hb1 hw1 hU hD h h1 hB1
  cases U with
  | false =>
    obtain rfl : R = false := by rw [← hR]; rfl
    clear hR
    go_enter Tryz.func76, Tryz.ntmps76
    go_wp2_with fail
    rw [HW1.out]
    refine CC.out.mono ?_
    rintro e w2 ⟨rfl, hb⟩
    have HB := hid (HB1.out.trans (hb.mono HB1.out.size))
    clear hb
    go_wp2
    go_ret
    exact ⟨rfl, HB.out⟩
  | true =>
    have hR' : R = !D := by rw [← hR]; rfl
    go_enter Tryz.func76, Tryz.ntmps76
    go_wp2_with fail
    rw [HW1.out]
    refine CC.out.mono ?_
    rintro e w2 ⟨rfl, hb⟩
    have HB := hid (HB1.out.trans (hb.mono HB1.out.size))
    have CH2 := hid (CH.out w2 hb)
    clear hb
    go_wp2_with fail
    refine CH2.out.mono ?_
    rintro e w3 ⟨rfl, rfl⟩
    go_wp2
    go_ret
    exact ⟨by rw [hR']; rfl, HB.out⟩
end Go.Proofs.YtigdcgklpapfbaaGreatDoor.S10

set_option linter.unusedVariables false
namespace Go.Proofs.YtigdcgklpapfbaaGreatDoor.S10
open Go Go.Proofs Go.RowKit Go.Lib Go.Proofs.YtigdcgklpapfbaaGreatDoor

def chkB (V0 V1 V2 L : Bool) (nP : Nat) (P : Bool) (seats : Int) (nF nS : Nat) (F S : Bool) (nT : Nat) (T : Bool) : Int :=
  if V0 = false ∨ V1 = false ∨ V2 = false then 10 else if L = false then 3 else if nP = 0 then 16 else if 8 < nP then 2 else if P = false then 1
  else if seats < 0 ∨ 9999 < seats then 3 else if 8 < nF ∨ 8 < nS then 2 else if F = false ∨ S = false then 10 else if 24 < nT then 2 else if T = false then 14 else 0
theorem checkM_eq (d s b m n : Int) (x : ClassD) : checkM d s b m n x = chkB (S3.validC x.code) (S3.validC x.course) (S3.validC x.part) (decide (1 ≤ x.len ∧ x.len ≤ s)) x.pats.length (patsB n x.pats) x.seats x.feats.length x.staff.length (featB x.feats) (featB x.staff) x.starts.length (startsB d s b m x.len x.starts) := rfl

set_option maxHeartbeats 16000000 in
set_option maxRecDepth 100000 in
theorem check_any (d s b m n : Int) (x : ClassD) (q : ClassA) (w : World) (h : ClassIn w (fun b => b < w.heap.size) x q) (hin : ∀ t ∈ x.starts, t.2 ≤ 9223372036854775807) :
    Calls Tryz.prog 48 #[clsV x q, .agg #[.int .i64 d, .int .i64 s, .int .i64 b, .int .i64 m], .int .i64 n] w (Says (.int .i64 (checkM d s b m n x)) w) := by
  obtain ⟨c0, c1, c2, len, pats, seats, feats, staff, starts⟩ := x
  obtain ⟨aP, cP, aF, cF, aS, cS, aT, cT⟩ := q
  obtain ⟨hp, hf, hs, ht, p1, p2, f1, f2, s1, s2, t1, t2⟩ := h
  dsimp only at hp hf hs ht p1 p2 f1 f2 s1 s2 t1 t2 hin
  unfold clsV Says
  dsimp only
  have hk0 := KT.first w #[.string (ba c0), .string (ba c1), .string (ba c2), .int .i64 len, .slice aP pats.length cP, .int .i64 seats, .slice aF feats.length cF, .slice aS staff.length cS, .slice aT starts.length cT] d s b m
  have low : ∀ W, Below w.heap.size w W → ∀ k, k < w.heap.size → k < W.heap.size := fun W hb k hk => Nat.lt_of_lt_of_le hk hb.size
  have cA := hid (fun (W : World) (hb : Below w.heap.size w W) => S3.valid_any (ba c0) W)
  have cV0 := fun W => S3.valid_any (ba c0) W
  have cV1 := fun W => S3.valid_any (ba c1) W
  have cV2 := fun W => S3.valid_any (ba c2) W
  have cL := fun W => isLength_any len d s b m W
  have cP := fun (W : World) (hb : Below w.heap.size w W) => arePatterns_any aP pats cP n W ((hp.below hb).mono (low W hb)) p1 p2
  have cF := fun (W : World) (hb : Below w.heap.size w W) => areF_any aF feats cF _ W (S3.StrsIn.below hf hb) f1 f2
  have cS := fun (W : World) (hb : Below w.heap.size w W) => areF_any aS staff cS _ W (S3.StrsIn.below hs hb) s1 s2
  have cT := fun (W : World) (hb : Below w.heap.size w W) => areStarts_any aT starts cT len d s b m W ((ht.below hb).mono (low W hb)) t1 t2 hin
  obtain ⟨R, hR⟩ : ∃ R, checkM d s b m n ⟨c0, c1, c2, len, pats, seats, feats, staff, starts⟩ = R := ⟨_, rfl⟩
  rw [hR]
  rw [checkM_eq] at hR
  dsimp only at hR
  unfold Says at cL cP cT
  rw [show (ba c0).data.toList = c0 from rfl] at cV0
  rw [show (ba c1).data.toList = c1 from rfl] at cV1
  rw [show (ba c2).data.toList = c2 from rfl] at cV2
  obtain ⟨V0, hV0⟩ : ∃ V, S3.validC c0 = V := ⟨_, rfl⟩
  obtain ⟨V1, hV1⟩ : ∃ V, S3.validC c1 = V := ⟨_, rfl⟩
  obtain ⟨V2, hV2⟩ : ∃ V, S3.validC c2 = V := ⟨_, rfl⟩
  obtain ⟨L, hL⟩ : ∃ V, decide (1 ≤ len ∧ len ≤ s) = V := ⟨_, rfl⟩
  obtain ⟨P, hP⟩ : ∃ V, patsB n pats = V := ⟨_, rfl⟩
  obtain ⟨F, hF⟩ : ∃ V, featB feats = V := ⟨_, rfl⟩
  obtain ⟨S, hS⟩ : ∃ V, featB staff = V := ⟨_, rfl⟩
  obtain ⟨T, hT⟩ : ∃ V, startsB d s b m len starts = V := ⟨_, rfl⟩
  rw [hV0, hV1, hV2, hL, hP, hF, hS, hT] at hR
  rw [hV0] at cV0
  rw [hV1] at cV1
  rw [hV2] at cV2
  rw [hL] at cL
  rw [hP] at cP
  rw [hF] at cF
  rw [hS] at cS
  rw [hT] at cT
  obtain ⟨X0, hX0⟩ : ∃ X, ba c0 = X := ⟨_, rfl⟩
  obtain ⟨X1, hX1⟩ : ∃ X, ba c1 = X := ⟨_, rfl⟩
  obtain ⟨X2, hX2⟩ : ∃ X, ba c2 = X := ⟨_, rfl⟩
  obtain ⟨nP, hnP⟩ : ∃ F, pats.length = F := ⟨_, rfl⟩
  obtain ⟨nF, hnF⟩ : ∃ F, feats.length = F := ⟨_, rfl⟩
  obtain ⟨nS, hnS⟩ : ∃ F, staff.length = F := ⟨_, rfl⟩
  obtain ⟨nT, hnT⟩ : ∃ F, starts.length = F := ⟨_, rfl⟩
  rw [hX0] at hk0 cV0 ⊢
  rw [hX1] at hk0 cV1 ⊢
  rw [hX2] at hk0 cV2 ⊢
  rw [hnP] at hk0 cP hR ⊢
  rw [hnF] at hk0 cF hR ⊢
  rw [hnS] at hk0 cS hR ⊢
  rw [hnT] at hk0 cT hR ⊢
  have CV0 := hid cV0
  have CV1 := hid cV1
  have CV2 := hid cV2
  have CL := hid cL
  have CP := hid cP
  have CF := hid cF
  have CS := hid cS
  have CT := hid cT
  have HK0 := hid hk0
  unfold chkB at hR
  have HR := hid hR
  clear cA cV0 cV1 cV2 cL cP cF cS cT hk0 hR hX0 hX1 hX2 hnP hnF hnS hnT hV0 hV1 hV2 hL hP hF hS hT low hp hf hs ht p1 p2 f1 f2 s1 s2 t1 t2 hin c0 c1 c2 pats feats staff starts
  go_enter Tryz.func48, Tryz.ntmps48
  go_wp2_with fail
  have hk := HK0.out
  clear HK0
  generalize World.alloc _ _ = wx at hk ⊢
  obtain ⟨x0, x1, x2, x3, x4, x5, x6, x7, x8⟩ := hk.x.cells
  obtain ⟨g0, g1, g2, g3, _⟩ := id hk.g
  have HK := hid hk
  clear hk
  refine (CV0.out _).mono ?_
  rintro e w' ⟨rfl, rfl⟩
  cases V0 with
  | false =>
    obtain rfl : R = 10 := HR.out.symm.trans (by simp)
    clear HR
    go_wp2
    go_ret
    exact ⟨rfl, HK.out.b⟩
  | true =>
  go_wp2_with fail
  refine (CV1.out _).mono ?_
  rintro e w' ⟨rfl, rfl⟩
  cases V1 with
  | false =>
    obtain rfl : R = 10 := HR.out.symm.trans (by simp)
    clear HR
    go_wp2
    go_ret
    exact ⟨rfl, HK.out.b⟩
  | true =>
  go_wp2_with fail
  refine (CV2.out _).mono ?_
  rintro e w' ⟨rfl, rfl⟩
  cases V2 with
  | false =>
    obtain rfl : R = 10 := HR.out.symm.trans (by simp)
    clear HR
    go_wp2
    go_ret
    exact ⟨rfl, HK.out.b⟩
  | true =>
  have hr := HR.out
  rw [if_neg (by simp)] at hr
  clear HR
  have HR := hid hr
  clear hr
  go_wp2_with fail
  refine (CL.out _).mono ?_
  rintro e w1 ⟨rfl, hb⟩
  have hk1 := HK.out.next hb
  clear x0 x1 x2 x3 x4 x5 x6 x7 x8 g0 g1 g2 g3
  obtain ⟨x0, x1, x2, x3, x4, x5, x6, x7, x8⟩ := hk1.x.cells
  obtain ⟨g0, g1, g2, g3, _⟩ := id hk1.g
  have HK1 := hid hk1
  clear hb hk1
  cases L with
  | false =>
    obtain rfl : R = 3 := HR.out.symm.trans (by simp)
    clear HR
    go_wp2
    go_ret
    exact ⟨rfl, HK1.out.b⟩
  | true =>
  have hr := HR.out
  rw [if_neg (by simp)] at hr
  clear HR
  have HR := hid hr
  clear hr
  by_cases z0 : nP = 0
  · subst z0
    obtain rfl : R = 16 := HR.out.symm.trans (by simp)
    clear HR
    go_wp2
    go_ret
    exact ⟨rfl, HK1.out.b⟩
  have z0a : ¬ ((nP : Int) = 0) := by omega
  have z0b : ((nP : Int) == 0) = false := by simpa using z0
  have z0c : (nP == 0) = false := by simpa using z0
  have hr := HR.out
  rw [if_neg z0] at hr
  clear HR
  have HR := hid hr
  clear hr
  by_cases z1 : 8 < nP
  · have z1a : (8 : Int) < (nP : Int) := by omega
    have z1d : decide ((8 : Int) < (nP : Int)) = true := decide_eq_true z1a
    obtain rfl : R = 2 := by have hr := HR.out; rw [← hr, if_pos z1]
    clear HR
    go_wp2
    go_ret
    exact ⟨rfl, HK1.out.b⟩
  have z1a : ¬ (8 : Int) < (nP : Int) := by omega
  have z1d : decide ((8 : Int) < (nP : Int)) = false := decide_eq_false z1a
  have hr := HR.out
  rw [if_neg z1] at hr
  clear HR
  have HR := hid hr
  clear hr
  go_wp2_with fail
  refine (CP.out _ HK1.out.b).mono ?_
  rintro e w2 ⟨rfl, hb⟩
  clear z0a z0b z0c z0 z1 z1a z1d
  have hk2 := HK1.out.next hb
  clear x0 x1 x2 x3 x4 x5 x6 x7 x8 g0 g1 g2 g3
  obtain ⟨x0, x1, x2, x3, x4, x5, x6, x7, x8⟩ := hk2.x.cells
  obtain ⟨g0, g1, g2, g3, _⟩ := id hk2.g
  have HK2 := hid hk2
  clear hb hk2
  cases P with
  | false =>
    obtain rfl : R = 1 := HR.out.symm.trans (by simp)
    clear HR
    go_wp2
    go_ret
    exact ⟨rfl, HK2.out.b⟩
  | true =>
  have hr := HR.out
  rw [if_neg (by simp)] at hr
  clear HR
  have HR := hid hr
  clear hr
  by_cases y0 : seats < 0
  · have y0d : decide (seats < 0) = true := decide_eq_true y0
    obtain rfl : R = 3 := by have hr := HR.out; rw [← hr, if_pos (Or.inl y0)]
    clear HR
    go_wp2
    go_ret
    exact ⟨rfl, HK2.out.b⟩
  have y0d : decide (seats < 0) = false := decide_eq_false y0
  by_cases y1 : 9999 < seats
  · have y1d : decide (9999 < seats) = true := decide_eq_true y1
    obtain rfl : R = 3 := by have hr := HR.out; rw [← hr, if_pos (Or.inr y1)]
    clear HR
    go_wp2
    go_ret
    exact ⟨rfl, HK2.out.b⟩
  have y1d : decide (9999 < seats) = false := decide_eq_false y1
  have hr := HR.out
  rw [if_neg (fun k => k.elim y0 y1)] at hr
  clear HR
  have HR := hid hr
  clear hr
  by_cases v0 : 8 < nF
  · have v0a : (8 : Int) < (nF : Int) := by omega
    have v0d : decide ((8 : Int) < (nF : Int)) = true := decide_eq_true v0a
    have v0e : decide (8 < nF) = true := decide_eq_true v0
    obtain rfl : R = 2 := by have hr := HR.out; rw [← hr, if_pos (Or.inl v0)]
    clear HR
    go_wp2
    go_ret
    exact ⟨rfl, HK2.out.b⟩
  have v0a : ¬ (8 : Int) < (nF : Int) := by omega
  have v0d : decide ((8 : Int) < (nF : Int)) = false := decide_eq_false v0a
  have v0e : decide (8 < nF) = false := decide_eq_false v0
  by_cases u0 : 8 < nS
  · have u0a : (8 : Int) < (nS : Int) := by omega
    have u0d : decide ((8 : Int) < (nS : Int)) = true := decide_eq_true u0a
    have u0e : decide (8 < nS) = true := decide_eq_true u0
    obtain rfl : R = 2 := by have hr := HR.out; rw [← hr, if_pos (Or.inr u0)]
    clear HR
    go_wp2
    go_ret
    exact ⟨rfl, HK2.out.b⟩
  have u0a : ¬ (8 : Int) < (nS : Int) := by omega
  have u0d : decide ((8 : Int) < (nS : Int)) = false := decide_eq_false u0a
  have u0e : decide (8 < nS) = false := decide_eq_false u0
  have hr := HR.out
  rw [if_neg (fun k => k.elim v0 u0)] at hr
  clear HR
  have HR := hid hr
  clear hr
  go_wp2_with fail
  refine (CF.out _ HK2.out.b).mono ?_
  rintro e w3 ⟨rfl, rfl⟩
  clear y0 y0d y1 y1d v0 v0a v0d v0e u0 u0a u0d u0e
  cases F with
  | false =>
    obtain rfl : R = 10 := HR.out.symm.trans (by simp)
    clear HR
    go_wp2
    go_ret
    exact ⟨rfl, HK2.out.b⟩
  | true =>
  go_wp2_with fail
  refine (CS.out _ HK2.out.b).mono ?_
  rintro e w3 ⟨rfl, rfl⟩
  cases S with
  | false =>
    obtain rfl : R = 10 := HR.out.symm.trans (by simp)
    clear HR
    go_wp2
    go_ret
    exact ⟨rfl, HK2.out.b⟩
  | true =>
  have hr := HR.out
  rw [if_neg (by simp)] at hr
  clear HR
  have HR := hid hr
  clear hr
  by_cases t0 : 24 < nT
  · have t0a : (24 : Int) < (nT : Int) := by omega
    have t0d : decide ((24 : Int) < (nT : Int)) = true := decide_eq_true t0a
    obtain rfl : R = 2 := by have hr := HR.out; rw [← hr, if_pos t0]
    clear HR
    go_wp2
    go_ret
    exact ⟨rfl, HK2.out.b⟩
  have t0a : ¬ (24 : Int) < (nT : Int) := by omega
  have t0d : decide ((24 : Int) < (nT : Int)) = false := decide_eq_false t0a
  have hr := HR.out
  rw [if_neg t0] at hr
  clear HR
  have HR := hid hr
  clear hr
  go_wp2_with fail
  refine (CT.out _ HK2.out.b).mono ?_
  rintro e w4 ⟨rfl, hb⟩
  have HK3 := hid (HK2.out.next hb)
  clear hb
  cases T with
  | false =>
    obtain rfl : R = 14 := HR.out.symm.trans (by simp)
    clear HR
    go_wp2
    go_ret
    exact ⟨rfl, HK3.out.b⟩
  | true =>
    obtain rfl : R = 0 := HR.out.symm.trans (by simp)
    clear HR
    go_wp2
    go_ret
    exact ⟨rfl, HK3.out.b⟩
end Go.Proofs.YtigdcgklpapfbaaGreatDoor.S10
