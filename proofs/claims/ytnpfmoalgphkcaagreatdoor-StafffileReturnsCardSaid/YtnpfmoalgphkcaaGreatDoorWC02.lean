/-
  What was written of made lecturers is read as it was: plain mathematics. No program; condition: the lecturers are as they are made.
  That the specification finds equal lists of rooms, of times, of problems equal. Conditions: the lists lie in memory.
  That the specification finds equal lists of lecturers equal. Conditions: the lists lie in memory.
  The walk of StafffileReturns. Conditions: the numbers lie in memory as a slice of ints; the variables hold what their text lays.
  The table of people, as its text lays it. Condition: the variable is listed.
-/
import Derived.Test.YtnpfmoalgphkcaaGreatDoorVA01
import Derived.Test.YtnpfmoalgphkcaaGreatDoorVA02
import Derived.Test.YtnpfmoalgphkcaaGreatDoorVA03
import Derived.Test.YtnpfmoalgphkcaaGreatDoorVA04
import Derived.Test.YtnpfmoalgphkcaaGreatDoorVA05
import Derived.Test.YtnpfmoalgphkcaaGreatDoorVA06
import Derived.Test.YtnpfmoalgphkcaaGreatDoorVA07
import Derived.Test.YtnpfmoalgphkcaaGreatDoorVA08
import Derived.Test.YtnpfmoalgphkcaaGreatDoorVA09
import Derived.Test.YtnpfmoalgphkcaaGreatDoorVA10
import Derived.Test.YtnpfmoalgphkcaaGreatDoorVA11
import Derived.Test.YtnpfmoalgphkcaaGreatDoorVA12
import Derived.Test.YtnpfmoalgphkcaaGreatDoorVA13
import Derived.Test.YtnpfmoalgphkcaaGreatDoorVA14
import Derived.Test.YtnpfmoalgphkcaaGreatDoorVA15
import Derived.Test.YtnpfmoalgphkcaaGreatDoorVA16
import Derived.Test.YtnpfmoalgphkcaaGreatDoorVA17
import Derived.Test.YtnpfmoalgphkcaaGreatDoorVA18
import Derived.Test.YtnpfmoalgphkcaaGreatDoorVA19
import Derived.Test.YtnpfmoalgphkcaaGreatDoorVA20
import Derived.Test.YtnpfmoalgphkcaaGreatDoorVA21
import Derived.Test.YtnpfmoalgphkcaaGreatDoorVA22
import Derived.Test.YtnpfmoalgphkcaaGreatDoorVA23
import Derived.Test.YtnpfmoalgphkcaaGreatDoorVA24
import Derived.Test.YtnpfmoalgphkcaaGreatDoorVA25
import Derived.Test.YtnpfmoalgphkcaaGreatDoorVA26
import Derived.Test.YtnpfmoalgphkcaaGreatDoorVA27
import Derived.Test.YtnpfmoalgphkcaaGreatDoorVA28
import Derived.Test.YtnpfmoalgphkcaaGreatDoorVA29
import Derived.Test.YtnpfmoalgphkcaaGreatDoorVA30
import Derived.Test.YtnpfmoalgphkcaaGreatDoorVA31
import Derived.Test.YtnpfmoalgphkcaaGreatDoorWA01
import Derived.Test.YtnpfmoalgphkcaaGreatDoorWA02
import Derived.Test.YtnpfmoalgphkcaaGreatDoorWA03
import Derived.Test.YtnpfmoalgphkcaaGreatDoorWC01
import Derived.Test.YtnpfmoalgphkcaaGreatDoorProg
import Derived.WalkKit
import Derived.WalkSpells
import Derived.WalkLawsBesides
import Derived.Lib.Hide
import Derived.Deep.QuietTactic
import Derived.BigQuiet
import Derived.Laws.Rows
import Derived.OwnWalk
import Derived.Lib.BufferWrite
import Derived.Lib.UnsafeStr
import Derived.Laws.IdiomStrings
import Derived.Laws.BytesArg
import Derived.Laws.BytesString
import Derived.Laws.OwnMore
import Derived.Lib.IndexLaws
import Derived.Lib.ItoaNum
import Derived.Lib.Atoi
import Derived.Laws.BitsAllLaws
import Derived.Laws.BitsLemmas
import Derived.Deep.MidRow
import Derived.Shelf.Strings.Builder1
import Derived.Shelf.Strings.Builder2
import Derived.Shelf.Strings.OnBuilder
import Derived.Shelf.Strings.BuilderF
import Derived.Shelf.Strings.BuilderK
import Derived.Shelf.Strings.Builder2Cap
import Derived.Shelf.Strconv.Atoi
import Derived.Shelf.Strconv.Itoa0
import Derived.Shelf.Strconv.Itoa1
import Derived.Shelf.LaysM
import Derived.Shelf.Strconv.Itoa2
import Derived.Shelf.Strconv.Itoa3
import Derived.Shelf.Strconv.AtoiErrFast
import Derived.Shelf.Strconv.ParseIntEmpty
import Derived.Shelf.Strconv.AtoiFail
import Derived.Shelf.Strconv.Clone
import Derived.Shelf.Strconv.SyntaxError
import Derived.Shelf.LaysC
import Derived.Shelf.Strconv.ToError
import Derived.Shelf.Strconv.AtoiErr
import Derived.Shelf.Strings.Search1
import Derived.Shelf.Strings.Search2
import Derived.Shelf.Strings.Search3
import Derived.Shelf.Strings.Cut
import Derived.Shelf.Strings.Shaped
import Derived.Shelf.Strings.Prefix
import Derived.Shelf.Unicode.DecodeSlow
import Derived.Shelf.Strings.BuilderCap
import Derived.Lib.AtoiErrMem
import Derived.Handy
import Derived.RangeFuncNested
import Derived.RangeFuncBound
import Derived.RangeFuncCalls
import Derived.RangeFuncLeaves
import Derived.Shelf.Abstract
import Derived.Shelf.RegionOpen
import Derived.OwnWalkIn
import Derived.Lib.Bytealg
import Derived.Lib.SlTrimSet
import Derived.Shelf.Strings.SlTrimAscii
import Derived.Laws.ResultCell
import Derived.RegionTactic
import Derived.Lib.Repeat
import Derived.Deep.RegionHeld3
import Derived.Lib.SlicesS
import Derived.TacticsInMore
import Derived.LoopNIn
import Derived.LoopIn
import Derived.Deep.DeepCutAuto
import Derived.Lib.Join
import Derived.Laws.Concat
import Derived.Maps.OwnSet
import Derived.Maps.Range
import Derived.Sort.EncStr
import Derived.Deep.RegionLaw
import Derived.IntWalk
import Derived.Maps.AppendAt
import Derived.Deep.AppendLies
import Derived.RangeFuncBox
import Derived.Shelf.SlGeneric
import Derived.Shelf.SlicesQ.IndexFunc
import Derived.Sort.Walk0
import Derived.Lib.AppendIntMem
import Derived.Deep.CutBlock
import Derived.Test.YtnpfmoalgphkcaaGreatDoorCards
import Derived.Test.YtnpfmoalgphkcaaGreatDoorTie
import Derived.Lib.SmallJoins
import Derived.SizedLaws
import Derived.Stop.LaidErr
import Derived.Deep.DeepWitnessRowRef
import Derived.ProofKit
import Derived.OpenShut
import Derived.Deep.DeepHandedRow
import Derived.Deep.DeepLaidRun
import Derived.Lib.LaidU8
import Derived.Shelf.Vars
import Derived.Deep.Slices
set_option linter.unusedVariables false
namespace Go.Proofs.YtnpfmoalgphkcaaGreatDoor
open Go Go.Proofs Go.RowKit Go.Lib

theorem has_mem (c : UInt8) : ∀ l : Str, has c l = false → c ∉ l
  | [], _ => by simp
  | x :: r, h => by
    simp only [has, Bool.or_eq_false_iff, beq_eq_false_iff_ne, ne_eq] at h
    intro hm
    rcases List.mem_cons.1 hm with e | e
    · exact h.1 e.symm
    · exact has_mem c r h.2 e
theorem item_semi : ∀ a b : Fin 25, has 59 (itemT a.val b.val) = false := by decide +kernel
theorem joinC_semi : ∀ (l : List Str), (∀ x ∈ l, has 59 x = false) → has 59 (joinC l) = false
  | [], _ => rfl
  | [x], h => h x (by simp)
  | x :: y :: l, h => by
    show has 59 (x ++ 44 :: joinC (y :: l)) = false
    rw [has_app, h x (by simp)]
    simp only [has]
    rw [joinC_semi (y :: l) (fun z hz => h z (List.mem_cons_of_mem _ hz))]
    rfl
theorem word_semi : ∀ k : Fin 5, has 59 (wordS k.val) = false := by decide
theorem form_semi {s n : Nat} (hs : s < 2 ^ n) (hn : n ≤ 20) : has 59 (formN s n) = false := by
  unfold formN
  cases h : nameK s n with
  | some k => exact word_semi ⟨k, (nameK_of h).1⟩
  | none =>
    refine joinC_semi _ (fun x hx => ?_)
    obtain ⟨r, hr, rfl⟩ := List.mem_map.1 hx
    obtain ⟨h1, h2, h3⟩ := runs_ok hs hn r hr
    exact item_semi ⟨r.1, by omega⟩ ⟨r.2, by omega⟩
theorem day_semi : ∀ y : Fin 7, has 59 (dayS y.val) = false ∧ dayS y.val ≠ [] := by decide
theorem timeT_semi {n k y t l : Nat} (hy : y < 7) (hl : 1 ≤ l) (htl : t + l ≤ 24) (hk : k < 2 ^ n) (hn : n ≤ 20) : has 59 (timeT n k y t l) = false ∧ timeT n k y t l ≠ [] := by
  have h1 := day_semi ⟨y, hy⟩
  have h2 := item_semi ⟨t + 1, by omega⟩ ⟨t + l, by omega⟩
  have h3 := form_semi hk hn
  dsimp only at h1 h2
  unfold timeT
  constructor
  · rw [has_app, has_app, h1.1]
    simp only [has]
    rw [h2]
    split
    · rfl
    · simp only [has]
      rw [h3]
      rfl
  · intro e
    have := congrArg List.length e
    simp at this
section
variable {d s b m : Int} {n : Nat}
/-- A made time's text. -/
theorem timeS_made (hg : MadeG d s b m) (h1 : 1 ≤ n) (h2 : n ≤ 20) {t : TimeD} (ht : MadeT d s n t.1 t.2.1 t.2.2.1 t.2.2.2) :
    timeM d s b m n (timeS d s b m n t) = (t, 0) ∧ has 59 (timeS d s b m n t) = false ∧ timeS d s b m n t ≠ [] := by
  obtain ⟨K, Y, T, U⟩ := t
  dsimp only at ht
  have hf := made_fits hg h1 h2 ht
  obtain ⟨t1, t2, t3, t4, t5⟩ := ht
  obtain ⟨g1, g2, _⟩ := hg
  obtain ⟨k, rfl⟩ : ∃ k : Nat, K = (k : Int) := ⟨K.toNat, by omega⟩
  obtain ⟨y, rfl⟩ : ∃ k : Nat, Y = (k : Int) := ⟨Y.toNat, by omega⟩
  obtain ⟨u, rfl⟩ : ∃ k : Nat, T = (k : Int) := ⟨T.toNat, by omega⟩
  obtain ⟨l, rfl⟩ : ∃ k : Nat, U = (k : Int) := ⟨U.toNat, by omega⟩
  have hk : k < 2 ^ n := by
    have e : (2 : Int) ^ n = ((2 ^ n : Nat) : Int) := by rw [Int.natCast_pow]; rfl
    omega
  have e : timeS d s b m n ((k : Int), (y : Int), (u : Int), (l : Int)) = timeT n k y u l := by
    unfold timeS textT
    dsimp only
    rw [if_pos hf]
    simp
  rw [e]
  exact ⟨time_read hf, timeT_semi (by omega) (by omega) (by omega) hk h2⟩
theorem tgo_made (hg : MadeG d s b m) (h1 : 1 ≤ n) (h2 : n ≤ 20) : ∀ (ts acc : List TimeD), (∀ t ∈ ts, MadeT d s n t.1 t.2.1 t.2.2.1 t.2.2.2) → tgo d s b m n (ts.map (timeS d s b m n)) acc = (acc ++ ts, 0)
  | [], acc, _ => by simp [tgo]
  | t :: ts, acc, h => by
    rw [List.map_cons, tgo, (timeS_made hg h1 h2 (h t (by simp))).1, if_neg (by simp), tgo_made hg h1 h2 ts _ (fun x hx => h x (by simp [hx]))]
    simp
theorem timesM_made (hg : MadeG d s b m) (h1 : 1 ≤ n) (h2 : n ≤ 20) {ts : List TimeD} (h : ∀ t ∈ ts, MadeT d s n t.1 t.2.1 t.2.2.1 t.2.2.2) (hl : ts.length ≤ 24) : timesM d s b m n (timesS d s b m n ts) = (ts, 0) := by
  unfold timesM timesS
  cases ts with
  | nil => rfl
  | cons t r =>
    have hne : (t :: r).map (timeS d s b m n) ≠ [] := by simp
    have hsp := S3.split_semi _ hne (fun p hp => by
      obtain ⟨x, hx, rfl⟩ := List.mem_map.1 hp
      exact has_mem 59 _ (timeS_made hg h1 h2 (h x hx)).2.1)
    have hn : S3.semi ((t :: r).map (timeS d s b m n)) ≠ [] := by
      intro e
      rw [e] at hsp
      have h0 : [([] : Str)] = (t :: r).map (timeS d s b m n) := hsp
      rw [List.map_cons] at h0
      injection h0 with h0 _
      exact (timeS_made hg h1 h2 (h t (by simp))).2.2 h0.symm
    rw [if_neg hn, hsp, tgo_made hg h1 h2 _ _ h, if_neg (by simp), if_neg (by simp at hl ⊢; omega)]
    rfl
theorem person_valid : ∀ j : Fin 3, S3.validC (personS j.val) = true := by decide
/-- A made lecturer alone. -/
structure LectOk (d s : Int) (n : Nat) (j : Nat) (x : LectD) : Prop where
  c : x.1 = personS j
  l : x.2.length ≤ 2
  t : ∀ t ∈ x.2, MadeT d s n t.1 t.2.1 t.2.2.1 t.2.2.2
theorem lectM_made (hg : MadeG d s b m) (h1 : 1 ≤ n) (h2 : n ≤ 20) {j : Nat} (hj : j < 3) {x : LectD} (h : LectOk d s n j x) : lectM d s b m n x = 0 := by
  unfold lectM
  rw [h.c, person_valid ⟨j, hj⟩, if_neg (by simp), if_neg (by have := h.l; omega), if_neg]
  simp only [List.any_eq_true, not_exists, not_and]
  intro t ht
  unfold unfitB fitT
  simp [made_fits hg h1 h2 (h.t t ht)]
theorem recM_made (hg : MadeG d s b m) (h1 : 1 ≤ n) (h2 : n ≤ 20) {j : Nat} (hj : j < 3) {x : LectD} (h : LectOk d s n j x) (i : Int) (l : List LectD) (hc : x.1 ∉ codesL l) (hl : l.length < 32) :
    S9.recM d s b m n (l, []) (i, colsM 1 (rowL d s b m n x)) = (l ++ [x], []) := by
  have hv : S3.validC x.1 = true := by rw [h.c]; exact person_valid ⟨j, hj⟩
  have ht := timesM_made hg h1 h2 h.t (by have := h.l; omega)
  have he : S9.entryM d s b m n (colsM 1 (rowL d s b m n x)) = (x, 0, 0) := by
    unfold S9.entryM rowL
    rw [if_neg (by rw [colsM_len]; simp)]
    simp only [colsM, S9.efold, S9.setF, hv, ht]
    simp
  have ha : S9.addC l x.1 = 0 := by
    unfold S9.addC
    rw [if_neg hc, if_neg (by omega)]
  unfold S9.recM
  dsimp only
  rw [he]
  dsimp only
  rw [if_neg (by simp), ha, if_neg (by simp)]
theorem StaffOk.lect {ls : List LectD} (h : StaffOk d s n ls) {j : Nat} {x : LectD} (hj : ls[j]? = some x) : LectOk d s n j x := ⟨(h.at_ j x hj).1, (h.at_ j x hj).2.1, (h.at_ j x hj).2.2⟩
/-- Made lecturers are valid, and read as they were written. -/
theorem staff_made (hg : MadeG d s b m) (h1 : 1 ≤ n) (h2 : n ≤ 20) {ls : List LectD} (h : StaffOk d s n ls) :
    validL d s b m n ls = 0 ∧ S9.readM d s b m n (plainM (ls.map (rowL d s b m n))) = (ls, []) := by
  have hf := made_frame hg h1 h2
  have h3 := h.len
  unfold validL S9.readM
  rw [if_neg (by simp [hf]), if_neg (by omega), if_pos hf]
  have p01 : personS 1 ≠ personS 0 := by decide
  have p02 : personS 2 ≠ personS 0 := by decide
  have p12 : personS 2 ≠ personS 1 := by decide
  match ls, h3, h with
  | [], _, h => exact ⟨rfl, rfl⟩
  | [x], _, h =>
    have k0 := h.lect (j := 0) (x := x) rfl
    refine ⟨by simp [goL, lectM_made hg h1 h2 (by omega) k0], ?_⟩
    unfold S9.recsM plainM
    simp only [List.map_cons, List.map_nil, List.mapIdx_cons, List.mapIdx_nil, List.foldl_cons, List.foldl_nil]
    rw [recM_made hg h1 h2 (by omega) k0 _ _ (by simp [codesL]) (by simp)]
    rfl
  | [x, y], _, h =>
    have k0 := h.lect (j := 0) (x := x) rfl
    have k1 := h.lect (j := 1) (x := y) rfl
    refine ⟨by simp [goL, lectM_made hg h1 h2 (by omega) k0, lectM_made hg h1 h2 (by omega) k1, k0.c, k1.c, p01], ?_⟩
    unfold S9.recsM plainM
    simp only [List.map_cons, List.map_nil, List.mapIdx_cons, List.mapIdx_nil, List.foldl_cons, List.foldl_nil]
    rw [recM_made hg h1 h2 (by omega) k0 _ _ (by simp [codesL]) (by simp), recM_made hg h1 h2 (by omega) k1 _ _ (by simp [codesL, k0.c, k1.c, p01]) (by simp)]
    rfl
  | [x, y, z], _, h =>
    have k0 := h.lect (j := 0) (x := x) rfl
    have k1 := h.lect (j := 1) (x := y) rfl
    have k2 := h.lect (j := 2) (x := z) rfl
    refine ⟨by simp [goL, lectM_made hg h1 h2 (by omega) k0, lectM_made hg h1 h2 (by omega) k1, lectM_made hg h1 h2 (by omega) k2, k0.c, k1.c, k2.c, p01, p02, p12], ?_⟩
    unfold S9.recsM plainM
    simp only [List.map_cons, List.map_nil, List.mapIdx_cons, List.mapIdx_nil, List.foldl_cons, List.foldl_nil]
    rw [recM_made hg h1 h2 (by omega) k0 _ _ (by simp [codesL]) (by simp), recM_made hg h1 h2 (by omega) k1 _ _ (by simp [codesL, k0.c, k1.c, p01]) (by simp), recM_made hg h1 h2 (by omega) k2 _ _ (by simp [codesL, k0.c, k1.c, k2.c, p02, p12]) (by simp)]
    rfl
  | x :: y :: z :: u :: r, h3, _ => simp at h3
end
end Go.Proofs.YtnpfmoalgphkcaaGreatDoor

set_option linter.unusedVariables false
namespace Go.Proofs.YtnpfmoalgphkcaaGreatDoor
open Go Go.Proofs Go.RowKit Go.Lib

theorem probVals_get : ∀ (l : List ProbD) (j : Nat) (t : ProbD), l[j]? = some t → ∀ (i : Nat) (v : Value), (probVs t)[i]? = some v → (probVals l)[j * 4 + i]? = some v
  | [], j, t, h, _, _, _ => by simp at h
  | a :: r, 0, t, h, i, v, hv => by
    simp at h
    subst h
    have hi : i < 4 := (List.getElem?_eq_some_iff.1 hv).1
    unfold probVals
    rw [List.flatMap_cons, List.getElem?_append_left (by show _ < 4; omega)]
    simpa using hv
  | a :: r, j + 1, t, h, i, v, hv => by
    have := probVals_get r j t (by simpa using h) i v hv
    unfold probVals at this ⊢
    rw [List.flatMap_cons, List.getElem?_append_right (by show 4 ≤ _; omega)]
    show (List.flatMap probVs r)[(j + 1) * 4 + i - 4]? = _
    rw [show (j + 1) * 4 + i - 4 = j * 4 + i by omega]
    exact this
theorem ProbsRow.cell {w : World} {B : Nat} {v : Value} {l : List ProbD} (h : ProbsRow w B v l) {j : Nat} {p : ProbD} (hj : l[j]? = some p) :
    ∃ g cap, v = .slice (some ⟨g, 0, none⟩) l.length cap ∧ w.cell? ⟨g, j * 4, none⟩ = some (.int .i64 0) ∧ w.cell? ⟨g, j * 4 + 1, none⟩ = some (.int .i64 p.1) ∧ w.cell? ⟨g, j * 4 + 2, none⟩ = some (.int .i64 p.2.1) ∧ w.cell? ⟨g, j * 4 + 3, none⟩ = some (.int .i64 p.2.2) := by
  rcases h.2 with ⟨_, h0⟩ | ⟨g, cap, cur, hv, hB, _⟩
  · have := (List.getElem?_eq_some_iff.1 hj).1
    omega
  · have k : ∀ i u, (probVs p)[i]? = some u → w.cell? ⟨g, j * 4 + i, none⟩ = some u := fun i u hi => by
      have := World.ownsRow.cells h (g := g) (by rw [hv]; rfl) (j * 4 + i) u (probVals_get l j p hj i u hi)
      rwa [Addr.add_lit, Nat.zero_add] at this
    exact ⟨g, cap, hv, k 0 _ rfl, k 1 _ rfl, k 2 _ rfl, k 3 _ rfl⟩
set_option maxHeartbeats 4000000 in
set_option maxRecDepth 100000 in
theorem sameTimes_any (A A' : Option Addr) (l : List TimeD) (c c' : Nat) (P P' : Nat → Prop) (w : World) (h : TimesIn w P A l) (h' : TimesIn w P' A' l) (hl : l.length ≤ 9223372036854775807) :
    Calls Tryz.prog 52 #[.slice A l.length c, .slice A' l.length c'] w fun e w' => e = .returned (.bool true) ∧ ∃ q, w' = w.drewN q := by
  have H := hid h
  have H' := hid h'
  clear h h'
  go_enter Tryz.func52, Tryz.ntmps52
  go_wp2
  go_loopw [5] (fun i wr => ∃ k : Nat, i = .int .i64 (k : Int) ∧ k ≤ l.length ∧ ∃ q, wr = w.drewN q) (fun i _ => l.length - (RowKit.intOf i).toNat)
  case atStart => exact ⟨0, rfl, Nat.zero_le _, 0, rfl⟩
  case round =>
    obtain ⟨k, rfl, hk, q, rfl⟩ := hrel
    by_cases hlt : k < l.length
    · have hltz : (k : Int) < (l.length : Int) := by omega
      obtain ⟨b1, o1, rfl, _, a0, a1, a2, a3⟩ := H.out.at_ hlt
      obtain ⟨b2, o2, rfl, _, e0, e1, e2, e3⟩ := H'.out.at_ hlt
      obtain ⟨⟨t1, t2, t3, t4⟩, ht⟩ : ∃ t, l[k] = t := ⟨_, rfl⟩
      rw [ht] at a0 a1 a2 a3 e0 e1 e2 e3
      dsimp only at a0 a1 a2 a3 e0 e1 e2 e3
      have d1 : decide (l.length ≤ k) = false := decide_eq_false (by omega)
      clear ht
      go_wp2
      go_quiet (fail)
      go_wp2
      go_roundw
      case rel => exact ⟨k + 1, by go_num, by omega, q + nq, by first | rfl | rw [World.drewN_drewN]⟩
      case measure => simp [RowKit.intOf]; omega
    · have hltz : ¬ (k : Int) < (l.length : Int) := by omega
      go_wp2
      go_ret
      exact ⟨rfl, q, rfl⟩
theorem times_drewN {w : World} {P : Nat → Prop} {A : Option Addr} {l : List TimeD} (h : TimesIn w P A l) (q : Nat) : TimesIn (w.drewN q) P A l := h.kept fun b _ => S3.drewN_heap w q b
end Go.Proofs.YtnpfmoalgphkcaaGreatDoor

set_option linter.unusedVariables false
namespace Go.Proofs.YtnpfmoalgphkcaaGreatDoor.S9
open Go Go.Proofs Go.RowKit Go.Lib Go.Proofs.YtnpfmoalgphkcaaGreatDoor

set_option maxHeartbeats 8000000 in
set_option maxRecDepth 100000 in
theorem same9_any (A A' : Option Addr) (l : List LectD) (c c' : Nat) (P P' : Nat → Prop) (w : World) (h : LectsIn w P A l) (h' : LectsIn w P' A' l) (hl : l.length ≤ 9223372036854775807) :
    Calls Tryz.prog 18 #[.slice A l.length c, .slice A' l.length c'] w fun e w' => e = .returned (.bool true) ∧ ∃ q, w' = w.drewN q := by
  have H := hid h
  have H' := hid h'
  clear h h'
  go_enter Tryz.func18, Tryz.ntmps18
  go_wp2
  go_loopw [5] (fun i wr => ∃ k : Nat, i = .int .i64 (k : Int) ∧ k ≤ l.length ∧ Hid (∃ q, wr = w.drewN q)) (fun i _ => l.length - (RowKit.intOf i).toNat)
  case atStart => exact ⟨0, rfl, Nat.zero_le _, hid ⟨0, rfl⟩⟩
  case round =>
    obtain ⟨k, rfl, hk, HQ⟩ := hrel
    by_cases hlt : k < l.length
    · have hltz : (k : Int) < (l.length : Int) := by omega
      have hst : ∀ j, wr.heap[j]? = w.heap[j]? := fun j => by obtain ⟨q, hq⟩ := HQ.out; rw [hq, S3.drewN_heap]
      obtain ⟨b1, o1, ⟨ta1, tc1⟩, rfl, _, hr1, a0, a1⟩ := (H.out.kept (w' := wr) (fun b _ => hst b)).at_ hlt
      obtain ⟨b2, o2, ⟨ta2, tc2⟩, rfl, _, hr2, e0, e1⟩ := (H'.out.kept (w' := wr) (fun b _ => hst b)).at_ hlt
      have cT := fun q => sameTimes_any ta1 ta2 l[k].2 tc1 tc2 _ _ (wr.drewN q) (times_drewN hr1.t q) (times_drewN hr2.t q) (Nat.le_trans hr1.t1 hr1.t2)
      obtain ⟨⟨cd, ts⟩, ht⟩ : ∃ t, l[k] = t := ⟨_, rfl⟩
      rw [ht] at a0 a1 e0 e1
      simp only [ht] at cT
      dsimp only at a0 a1 e0 e1
      obtain ⟨T, hT⟩ : ∃ T, ts.length = T := ⟨_, rfl⟩
      rw [hT] at a1 e1
      simp only [hT] at cT
      obtain ⟨C, hC⟩ : ∃ C, ba cd = C := ⟨_, rfl⟩
      rw [hC] at a0 e0
      have d1 : decide (l.length ≤ k) = false := decide_eq_false (by omega)
      have CT := hid cT
      clear ht hr1 hr2 hT hC cT hst
      go_wp2
      go_quiet ((go_at_call 52; with_reducible refine Calls.quiet_of (CT.out _)))
      go_wp2
      go_roundw
      case rel => exact ⟨k + 1, by go_num, by omega, hid (by obtain ⟨q, hq⟩ := HQ.out; exact ⟨q + nq, by rw [hq, World.drewN_drewN]⟩)⟩
      case measure => simp [RowKit.intOf]; omega
    · have hltz : ¬ (k : Int) < (l.length : Int) := by omega
      go_wp2
      go_ret
      exact ⟨rfl, HQ.out⟩
end Go.Proofs.YtnpfmoalgphkcaaGreatDoor.S9

set_option linter.unusedVariables false
namespace Go.Proofs.YtnpfmoalgphkcaaGreatDoor
open Go Go.Proofs Go.RowKit Go.Lib

theorem colsM_mem : ∀ (c : Int) (r : List Str) (f : FieldD), f ∈ colsM c r → f.1 ∈ r
  | c, [], f, h => by simp [colsM] at h
  | c, s :: r, f, h => by
    simp only [colsM, List.mem_cons] at h
    rcases h with rfl | h
    · simp
    · exact List.mem_cons_of_mem _ (colsM_mem _ r f h)
theorem plainM_mem {l : List (List Str)} {x : RecD} (h : x ∈ plainM l) : ∀ f ∈ x.2, ∃ r ∈ l, f.1 ∈ r := by
  unfold plainM at h
  obtain ⟨i, hi, rfl⟩ := List.mem_mapIdx.1 h
  exact fun f hf => ⟨l[i], List.getElem_mem hi, colsM_mem _ _ f hf⟩
theorem row_small {d s b m : Int} {n : Nat} {ls : List LectD} (h : StaffOk d s n ls) : ∀ r ∈ ls.map (rowL d s b m n), r.length = 2 ∧ ∀ x ∈ r, x.length ≤ 1000 := by
  intro r hr
  obtain ⟨x, hx, rfl⟩ := List.mem_map.1 hr
  obtain ⟨j, hj, rfl⟩ := List.mem_iff_getElem.1 hx
  have k := h.at_ j ls[j] (List.getElem?_eq_getElem hj)
  have h3 := h.len
  refine ⟨rfl, fun y hy => ?_⟩
  simp only [rowL, List.mem_cons, List.not_mem_nil, or_false] at hy
  rcases hy with rfl | rfl
  · rw [k.1]
    rcases (show j = 0 ∨ j = 1 ∨ j = 2 by omega) with rfl | rfl | rfl <;> decide
  · unfold timesS
    have h1 := semi_len300 (ls[j].2.map (timeS d s b m n)) (fun p hp => by obtain ⟨t, _, rfl⟩ := List.mem_map.1 hp; exact timeS_len _ _ _ _ _ t)
    rw [List.length_map] at h1
    have h2 := k.2.1
    omega
/-- What stands behind Write: the grid's box, the lecturers, and that nothing that was there has turned. -/
structure RK (w0 : World) (GB M : Nat) (A : Option Addr) (ls : List LectD) (d s b m : Int) (w : World) : Prop where
  bw : Below w0.heap.size w0 w
  g : Box4 w GB d s b m
  l : LectsIn w (fun k => k < M) A ls
  z : M ≤ w.heap.size
theorem RK.next {w0 w w' : World} {GB M : Nat} {A : Option Addr} {ls : List LectD} {d s b m : Int} (h : RK w0 GB M A ls d s b m w) (k : Below w.heap.size w w') : RK w0 GB M A ls d s b m w' :=
  ⟨h.bw.trans (k.mono h.bw.size), h.g.next k h.g.lt, h.l.kept (fun i hi => k.block i (Nat.lt_of_lt_of_le hi h.z)), Nat.le_trans h.z k.size⟩
theorem RK.cells {w0 w : World} {GB M : Nat} {A : Option Addr} {ls : List LectD} {d s b m : Int} (h : RK w0 GB M A ls d s b m w) :
    w.cell? ⟨GB, 0, none⟩ = some (.int .i64 d) ∧ w.cell? ⟨GB, 1, none⟩ = some (.int .i64 s) ∧ w.cell? ⟨GB, 2, none⟩ = some (.int .i64 b) ∧ w.cell? ⟨GB, 3, none⟩ = some (.int .i64 m) := ⟨h.g.c0, h.g.c1, h.g.c2, h.g.c3⟩
set_option maxHeartbeats 16000000 in
set_option maxRecDepth 100000 in
theorem returns9_any (A : Option Addr) (L : List Int) (c PB po pc : Nat) (hlen : L.length ≤ 9223372036854775807) (w : World) (hE : Env7 w) (h : IntsIn w w.heap.size A L)
    (hp : PeopleAt w PB po pc) (hPB : PB < w.heap.size) :
    Calls Tryz.prog 6 #[.slice A L.length c] w fun e w' => e = .returned (.bool true) ∧ Below w.heap.size w w' := by
  have cL := light_any A L.length c w
  have hGz : 0 < w.heap.size := World.block_lt_of_cell? w _ hp.c0
  have cK := hid (fun w' (hb : Below w.heap.size w w') => S9.awake9_any w' (hE.below hb (Nat.le_refl _)))
  have cK' := cK.out
  unfold Says at cK'
  have cK := hid cK'
  have HE := hid (fun w' (hb : Below w.heap.size w w') => hE.below hb (Nat.le_refl _))
  have HPP := hid (fun w' (hb : Below w.heap.size w w') => hp.kept (w' := w') (hb.block _ hGz) (hb.block _ hPB))
  clear cK' hp
  by_cases hl : L.length ≤ 400
  · rw [decide_eq_true hl] at cL
    have cR := hid (fun w h => roll_any A L c hl w h)
    have HI := hid h
    clear hE h
    go_enter Tryz.func6, Tryz.ntmps6
    go_wp2_with fail
    refine cL.mono ?_
    rintro e w' ⟨rfl, rfl⟩
    go_wp2_with fail
    refine (cR.out _ HI.out).mono ?_
    rintro e w1 ⟨rfl, hd1, hb1⟩
    have hgl := hd1.lt
    have HB : Hid (∀ W k, DE w1 w.heap.size c A L k W → Below w.heap.size w W) := hid (fun W k he => hb1.trans (he.toBelow (Nat.le_of_lt hgl) (Nat.le_refl _)))
    have cG := hid (grid_any w.heap.size c 0 A L w1 hd1)
    clear hd1 hb1 cL cR HI
    go_wp2_with fail
    refine cG.out.mono ?_
    rintro e w2 ⟨d, s, b, m, k2, rfl, hmg, he2⟩
    have HN := hid (fun (W : World) k n hn (h : DiceAt W w.heap.size A L c k) => next_at w.heap.size c k A L n hn W h)
    have cN := HN.out _ _ 8 (by omega) he2.d
    obtain ⟨r, hr⟩ : ∃ r, rollV L k2 8 = r := ⟨_, rfl⟩
    have hrr := rollV_range L k2 8 (by omega)
    rw [hr] at cN hrr
    generalize rollK L k2 = k3 at cN
    obtain ⟨q, rfl⟩ : ∃ q : Nat, r = (q : Int) := ⟨r.toNat, by omega⟩
    obtain ⟨n, hn⟩ : ∃ n, q + 1 = n := ⟨_, rfl⟩
    have hn1 : 1 ≤ n := by omega
    have hn2 : n ≤ 8 := by omega
    have hni : 1 + (q : Int) = (n : Int) := by omega
    have HE2 := hid he2
    have CN := hid cN
    have HMG := hid hmg
    have g1 : 1 ≤ d ∧ d ≤ 5 := hmg.1
    have g2 : 2 ≤ s ∧ s ≤ 8 := hmg.2.1
    clear cN he2 hr hrr hn cG hmg HN
    go_wp2_with fail
    refine CN.out.mono ?_
    rintro e w3 ⟨rfl, hd3, hR3⟩
    have he3 := HE2.out.next hd3 hR3
    have he4 := he3.alloc (.cells #[.int .i64 d, .int .i64 s, .int .i64 b, .int .i64 m] 24)
    have hc4 := Cells4.new w3 d s b m 24
    have hg3 := he3.p.size
    have HE4 := hid he4
    have HC4 := hid hc4
    clear he3 he4 hc4 hd3 hR3 CN HE2
    obtain ⟨g0, g1', g2', g3', _⟩ := HC4.out.box
    have hne : w3.heap.size ≠ w.heap.size := by omega
    have hb4 := HB.out _ _ HE4.out
    have cS := hid (dstaff_any w.heap.size c _ PB po pc A L d s b m n hn1 (by omega) (by omega) (by omega) (by omega) (by omega) _ HE4.out.d (HPP.out _ hb4) hGz hPB)
    clear hb4
    go_wp2_with fail
    refine cS.out.mono ?_
    rintro e w5 ⟨ls, v, k5, rfl, hok, hrow, he5⟩
    have hb5 := HB.out _ _ (HE4.out.trans he5)
    have hc5 := HC4.out.played he5.p hne
    obtain ⟨hval, hread⟩ := staff_made HMG.out hn1 (by omega) hok
    have hsm := row_small (b := b) (m := m) hok
    obtain ⟨A5, c5, rfl, hl5, hc55, hin5⟩ := hrow.lectsIn
    have hin5' : LectsIn w5 (fun k => k < w5.heap.size) A5 ls := hin5.mono (fun k hk => by rcases hk with h | h; exact h.2; exact h.2)
    have hrk : RK w w3.heap.size w5.heap.size A5 ls d s b m w5 := ⟨hb5, hc5.box, hin5', Nat.le_refl _⟩
    have cW := lwrite_any d s b m n A5 ls c5 w5 hin5' (HE.out _ hb5)
    have hwr : writeL d s b m n ls = (ls.map (rowL d s b m n), 0) := by unfold writeL; rw [if_neg (by simp [hval])]
    rw [hwr] at cW
    have hl3 := hok.len
    have hrl : (ls.map (rowL d s b m n)).length = ls.length := List.length_map _
    have hpl : (plainM (ls.map (rowL d s b m n))).length = ls.length := by rw [plainM_len, hrl]
    have hpsz : ∀ x ∈ plainM (ls.map (rowL d s b m n)), ∀ f ∈ x.2, f.1.length < 4294967281 := fun x hx f hf => by
      obtain ⟨r, hr, hfr⟩ := plainM_mem hx f hf
      have := (hsm r hr).2 f.1 hfr
      omega
    obtain ⟨rows, hrows⟩ : ∃ R, ls.map (rowL d s b m n) = R := ⟨_, rfl⟩
    rw [hrows] at cW hread hsm hrl hpl hpsz
    have HP : Hid (∀ (W : World) (A6 : Option Addr) (c6 M6 : Nat), M6 ≤ W.heap.size → RowsIn W (fun k => k < M6) A6 rows → Calls Tryz.prog 29 #[.slice A6 ls.length c6] W fun e w' =>
        (∃ (A7 : Option Addr) (c7 : Nat), e = .returned (.slice A7 ls.length c7) ∧ RecsIn w' (fun k => k < w'.heap.size) A7 (plainM rows)) ∧ Below W.heap.size W w') := hid (fun W A6 c6 M6 hM hr => by
      have cP := plain_any A6 rows c6 M6 W hM hr (by omega) (fun r hr => by have := (hsm r hr).1; omega) (fun r hr x hx => by have := (hsm r hr).2 x hx; omega)
      rw [hrl] at cP
      refine cP.mono ?_
      rintro e w' ⟨⟨v, rfl, hrr⟩, hb⟩
      obtain ⟨A7, c7, rfl, _, _, hri⟩ := hrr.recsIn
      rw [hpl]
      exact ⟨⟨A7, c7, rfl, hri.mono (fun k hk => hk.2)⟩, hb⟩)
    have HRD : Hid (∀ (W : World) (A7 : Option Addr) (c7 : Nat), RecsIn W (fun k => k < W.heap.size) A7 (plainM rows) → Below w.heap.size w W → Calls Tryz.prog 16 #[.slice A7 ls.length c7, .agg #[.int .i64 d, .int .i64 s, .int .i64 b, .int .i64 m], .int .i64 (n : Int)] W fun e w' =>
        (∃ (A8 : Option Addr) (c8 : Nat) (A9 : Option Addr) (c9 : Nat), e = .returned (.tuple #[.slice A8 ls.length c8, .slice A9 0 c9]) ∧ LectsIn w' (fun k => k < w'.heap.size) A8 ls) ∧ Below W.heap.size W w') := hid (fun W A7 c7 hr hb => by
      have cR := S9.read9_any d s b m n A7 (plainM rows) c7 W hr (by omega) hpsz (HE.out _ hb)
      rw [hread, hpl] at cR
      unfold S9.ReadOut at cR
      refine cR.mono ?_
      rintro e w' ⟨v1, v2, rfl, hrm, hpr, hb'⟩
      obtain ⟨A8, c8, rfl, _, _, hin8⟩ := hrm.lectsIn
      have hv2 : ∃ A9 c9, v2 = .slice A9 0 c9 := by
        rcases hpr.2 with ⟨hv, _⟩ | ⟨g, cap, cur, hv, _⟩
        · exact ⟨_, _, hv⟩
        · exact ⟨_, _, hv⟩
      obtain ⟨A9, c9, rfl⟩ := hv2
      exact ⟨⟨A8, c8, A9, c9, rfl, hin8.mono (fun k hk => by rcases hk with h | h; exact h.2; exact h.2)⟩, hb'⟩)
    unfold WriteOut at cW
    have CW := hid cW
    have HRK := hid hrk
    have HRL := hid hrl
    clear hrow he5 hb5 hc5 hin5 hin5' cW hval hread hsm hwr hrl hpl hpsz hrows hrk hok HC4 HE4 HB cS g0 g1' g2' g3' hne hg3 hl5 hc55 HMG HE HPP hgl
    obtain ⟨g0, g1', g2', g3'⟩ := HRK.out.cells
    go_wp2_with fail
    refine CW.out.mono ?_
    rintro e w6 ⟨⟨v6, L6, hL6, rfl, hrr6⟩, hb6⟩
    obtain ⟨A6, c6, rfl, _, _, hri6⟩ := hrr6.rowsIn
    have hl6 : L6.length = ls.length := by rw [← HRL.out, ← hL6, List.length_map]
    rw [hL6] at hri6
    rw [hl6]
    have HRI6 := hid hri6
    have HRK6 := hid (HRK.out.next hb6)
    clear hrr6 hri6 hb6 hL6 hl6 CW HRK g0 g1' g2' g3' HRL
    go_upto_region 7 with fail
    have hk' : RK w w3.heap.size w5.heap.size A5 ls d s b m w6.drew := HRK6.out.next (Below.refl _ w6).drew
    have hri : RowsIn w6.drew (fun k => k < w6.heap.size) A6 rows := (HRI6.out.kept (fun k hk => (Below.refl w6.heap.size w6).drew.block k hk.2)).mono (fun k hk => hk.2)
    have HRI := hid hri
    have HZ : Hid (w6.heap.size ≤ w6.drew.heap.size) := hid (Below.refl w6.heap.size w6).drew.size
    clear hri
    go_cut [9, 10] (fun v9 v10 W => ∃ (A8 : Option Addr) (c8 : Nat) (A9 : Option Addr) (c9 : Nat), v9 = .slice A8 ls.length c8 ∧ v10 = .slice A9 0 c9 ∧ Hid (RK w w3.heap.size w5.heap.size A5 ls d s b m W) ∧ Hid (LectsIn W (fun k => k < W.heap.size) A8 ls))
    case first =>
      go_region_held3 (fun w' => w'.cell? ⟨w3.heap.size, 0, none⟩ = some (.int .i64 d) ∧ w'.cell? ⟨w3.heap.size, 1, none⟩ = some (.int .i64 s) ∧ w'.cell? ⟨w3.heap.size, 2, none⟩ = some (.int .i64 b) ∧ w'.cell? ⟨w3.heap.size, 3, none⟩ = some (.int .i64 m))
        (first | with_reducible exact hk'.cells)
        (first
          | (go_at_call 29; refine (HP.out _ A6 c6 w6.heap.size HZ.out HRI.out).mono ?_; rintro e wP ⟨⟨A7, c7, rfl, hrc⟩, hbP⟩; have HRC := hid hrc; have hk' := hk'.next hbP; clear hrc hbP)
          | (go_at_call 16; refine (HRD.out _ A7 c7 HRC.out hk'.bw).mono ?_; rintro e wR ⟨⟨A8, c8, A9, c9, rfl, hin8⟩, hbR⟩; have HIN8 := hid hin8; have hk' := hk'.next hbR; clear hin8 hbR))
      all_goals
        go_wp2_with fail
        go_meet
        exact ⟨A8, c8, A9, c9, rfl, rfl, hid hk', HIN8⟩
    case rest =>
      obtain ⟨A8, c8, A9, c9, rfl, rfl, HK8, HIN8⟩ := hcut
      clear HRK6 HRI6 HRI HZ HP HRD hk'
      go_wp2_with fail
      refine (cK.out _ HK8.out.bw).mono ?_
      rintro e w8 ⟨rfl, hb8⟩
      have HK9 := hid (HK8.out.next hb8)
      have HIN9 := hid ((HIN8.out.below hb8).mono (fun k hk => Nat.lt_of_lt_of_le hk hb8.size))
      clear hb8 HK8 HIN8
      have cSm := fun W (h1 : LectsIn W (fun k => k < w5.heap.size) A5 ls) (h2 : LectsIn W (fun k => k < w8.heap.size) A8 ls) => S9.same9_any A5 A8 ls c5 c8 (fun k => k < w5.heap.size) (fun k => k < w8.heap.size) W h1 h2 (by omega)
      have CSM := hid cSm
      clear cSm
      go_wp2_with fail
      refine (CSM.out _ HK9.out.l HIN9.out).mono ?_
      rintro e w9 ⟨rfl, q9, hw9⟩
      have HB9 : Hid (Below w.heap.size w w9) := hid (by rw [hw9]; exact HK9.out.bw.trans (S3.below_drewN (Below.refl _ _) q9))
      clear hw9
      go_wp2
      go_ret
      exact ⟨rfl, HB9.out⟩
  · rw [decide_eq_false hl] at cL
    clear hE h
    go_enter Tryz.func6, Tryz.ntmps6
    go_wp2_with fail
    refine cL.mono ?_
    rintro e w' ⟨rfl, rfl⟩
    go_wp2_with fail
    refine (cK.out _ (Below.refl _ _)).mono ?_
    rintro e w2 ⟨rfl, hb2⟩
    have HB2 := hid hb2
    clear hb2
    go_wp2
    go_ret
    exact ⟨rfl, HB2.out⟩
end Go.Proofs.YtnpfmoalgphkcaaGreatDoor

set_option linter.unusedVariables false
set_option maxRecDepth 100000
namespace Go.Proofs.YtnpfmoalgphkcaaGreatDoor
open Go Go.Proofs Go.ChangeShapes Go.WideShapes Go.ChangeAt Go.RowKit Go.Deep

theorem gPeople : Tryz.prog.globalNamed "timetable/timetablemade.people" = some 0 := by kernel_rfl
theorem cells9' : Tryz.prog.cellsOf 9 = 1 := by kernel_rfl
/-- The table of people stands somewhere. -/
def People (W : World) : Prop := ∃ PB po pc, PeopleAt W PB po pc ∧ PB < W.heap.size
theorem people_ofL {W : World} {L : List (String × DataW Unit)} (hL : laidMet Tryz.prog L W) (hm : ("timetable/timetablemade.people", (Rows.laid_timetable_timetablemade_people : DataW Unit)) ∈ L) : People W := by
  obtain ⟨g, t, cs, fuel, p, hg, hty, hvar, hd⟩ := Lib.laidMet.reads hL hm
  obtain rfl := Option.some.inj (gPeople.symm.trans hg)
  obtain rfl := Option.some.inj ((show (Tryz.prog.globals[0]?).map (·.type) = some 58 by kernel_rfl).symm.trans hty)
  rcases open_slice Tryz.underlying58 hd with ⟨_, h⟩ | ⟨a, len, cap, mm, n, D, Pl, hcs, _, hl, hmx, hmm, hx, hel⟩
  · injection h with h _
    unfold Rows.laid_timetable_timetablemade_people at h
    cases h
  · injection hx with hx _
    unfold Rows.laid_timetable_timetablemade_people at hx
    injection hx with h1 h2
    have hlen : len = 3 := by have := congrArg List.length h1; simpa using this.symm
    subst hlen
    have hm3 : 3 ≤ mm := by rw [hmm]; split <;> omega
    have hD : ∀ i, i < 3 → D i = .lit (.string (personS i)) := by
      intro i hi
      have h := congrArg (·[i]?) h1
      rcases (show i = 0 ∨ i = 1 ∨ i = 2 by omega) with rfl | rfl | rfl
      all_goals
        simp at h
        exact h.symm
    have hc : ∀ i, i < 3 → W.cell? (a.add i) = some (.string (ba (personS i))) := by
      intro i hi
      obtain ⟨cs', e1, e2⟩ := hel i (by omega)
      rw [cells9', Nat.mul_one] at e1
      obtain ⟨s, rfl, e3, _⟩ := DataW.trod_string Tryz.underlying9 e2
      have h0 := (World.cells?_some e1).2.2 0 (by omega)
      have hs : s = ba (personS i) := by
        injection e3 with e3 _
        rw [hD i hi] at e3
        injection e3 with e3
        injection e3 with e3
        exact ba_of e3.symm
      subst hs
      obtain ⟨b, off, spot⟩ := a
      simpa [Addr.add] using h0
    obtain ⟨b, off, spot⟩ := a
    have hspot : spot = none := by simpa [Addr.add] using World.cell?_spot (hc 0 (by omega))
    subst hspot
    have hc' : ∀ i, i < 3 → W.cell? ⟨b, off + i, none⟩ = some (.string (ba (personS i))) := fun i hi => by rw [← Go.WideShapes.add_plain]; exact hc i hi
    refine ⟨b, off, cap, ⟨?_, hc'⟩, World.block_lt_of_cell? W _ (hc' 0 (by omega))⟩
    rw [World.var?_cell gPeople hvar 0, ← Array.getElem?_toList, hcs]
    rfl
end Go.Proofs.YtnpfmoalgphkcaaGreatDoor

