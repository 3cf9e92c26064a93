/-
  A predicate on times, asked of a list of them (slices.ContainsFunc): which do not fit, which overlap another one. Conditions: the times lie in memory.
  A room alone: check of roomfile. Conditions: the room's lists lie in memory.
  The rooms that are known, by their codes: add of rooms. Conditions: the map is one of the call's own, with the codes l; the room's code fits into memory.
  Reading rooms, as mathematics: fields, entries, lists of records. No program.
-/
import Derived.Test.YtnpfmoalgphkcaaGreatDoorVA17
import Derived.Test.YtnpfmoalgphkcaaGreatDoorVA14
import Derived.Test.YtnpfmoalgphkcaaGreatDoorVA08
import Derived.Test.YtnpfmoalgphkcaaGreatDoorVA19
import Derived.Test.YtnpfmoalgphkcaaGreatDoorVA13
import Derived.Test.YtnpfmoalgphkcaaGreatDoorVA18
import Derived.Shelf.SlicesQ.IndexFunc
import Derived.Sort.Walk0
import Derived.Maps.OwnSet
import Derived.Maps.Range
import Derived.WalkKit
import Derived.Sort.EncStr
set_option linter.unusedVariables false
namespace Go.Proofs.YtnpfmoalgphkcaaGreatDoor
open Go Go.Proofs Go.RowKit Go.Lib

abbrev TimeF := {t : TimeD // t.2.2.1 ≤ 9223372036854775807}
instance instTimeF : Inhabited TimeF := ⟨⟨(0, 0, 0, 0), by decide⟩⟩
def encT (x : TimeF) : List Value := timeVs x.1
def listF (l : List TimeD) (h : ∀ t ∈ l, t.2.2.1 ≤ 9223372036854775807) : List TimeF := l.pmap (fun t ht => ⟨t, ht⟩) h
theorem listF_len (l : List TimeD) (h) : (listF l h).length = l.length := List.length_pmap
theorem listF_any (l : List TimeD) (h) (p : TimeD → Bool) : (listF l h).any (fun x => p x.1) = l.any p := by
  induction l with
  | nil => rfl
  | cons a r ih =>
    have := ih (fun t ht => h t (by simp [ht]))
    simp only [listF, List.pmap, List.any_cons] at this ⊢
    rw [this]

set_option maxHeartbeats 1000000 in
/-- ContainsFunc of no times. -/
theorem anyT_nil (A : Option Addr) (c : Nat) (f : Value) (w : World) : Calls Tryz.prog 60 #[.slice A 0 c, f] w fun e w' => e = .returned (.bool false) ∧ Below w.heap.size w w' := by
  have cI : ∀ w, Calls Tryz.prog 82 #[.slice A 0 c, f] w fun e w' => e = .returned (.int .i64 (-1)) ∧ w = w' := fun w => by
    go_enter Tryz.func82, Tryz.ntmps82
    go_wp2
    go_loop [5, 8] (fun _ iv => iv = .int .i64 0) (fun _ _ => 0)
    case atStart => rfl
    case round =>
      subst hrel
      go_wp2
      go_ret
      exact ⟨rfl, rfl⟩
  go_enter Tryz.func60, Tryz.ntmps60
  go_wp2_with fail
  refine (cI _).mono ?_
  rintro e w' ⟨rfl, rfl⟩
  go_wp2
  go_ret
  exact ⟨rfl, Below.refl _ _⟩

theorem egUnfit : ∀ args w, (callFunc 88 args).run Tryz.prog w = .ok (.enter 88 args) w := enters_of Tryz.func88 (by kernel_rfl) rfl
theorem egOpen : ∀ args w, (callFunc 58 args).run Tryz.prog w = .ok (.enter 58 args) w := enters_of Tryz.func58 (by kernel_rfl) rfl
set_option maxHeartbeats 2000000 in
/-- The program's closure that tells which times do not fit. -/
theorem pred_unfit (d s b m n : Int) (G N : Nat) (w : World) (hG : Box4 w G d s b m) (hN : w.cell? ⟨N, 0, none⟩ = some (.int .i64 n)) (hNl : N < w.heap.size) :
    PredBelow Tryz.prog 88 #[.pointer (some ⟨G, 0, none⟩), .pointer (some ⟨N, 0, none⟩)] (fun x : TimeF => .agg (encT x).toArray) (fun x => unfitB d s b m n x.1) w := fun W x hb => by
  obtain ⟨⟨k, y, t, l⟩, ht⟩ := x
  have cF := fun w => fits_any d s b m n k y t l ht w
  unfold Says at cF
  have hGl := hG.lt
  have hG' := hG.next hb hGl
  have hN' : W.cell? ⟨N, 0, none⟩ = some (.int .i64 n) := (hb.cell (p := ⟨N, 0, none⟩) hNl).trans hN
  obtain ⟨x0, x1, x2, x3, _⟩ := hG'
  have hsW := hb.size
  have hGW : G ≠ W.heap.size := by omega
  have hNW : N ≠ W.heap.size := by omega
  show Calls Tryz.prog 88 #[.agg #[.int .i64 k, .int .i64 y, .int .i64 t, .int .i64 l], .pointer (some ⟨G, 0, none⟩), .pointer (some ⟨N, 0, none⟩)] W _
  show Calls _ _ _ _ fun e w' => e = .returned (.bool (decide (fitsM d s b m n k y t l ≠ 0))) ∧ _
  obtain ⟨F, hF⟩ : ∃ F, fitsM d s b m n k y t l = F := ⟨_, rfl⟩
  rw [hF] at cF ⊢
  have hn1 : (W.alloc (.cells #[.int .i64 k, .int .i64 y, .int .i64 t, .int .i64 l] 26)).cell? ⟨N, 0, none⟩ = some (.int .i64 n) := Lib.cell?_alloc_some _ hN'
  have HB := hid (hb.alloc hb.size (.cells #[.int .i64 k, .int .i64 y, .int .i64 t, .int .i64 l] 26))
  clear hb hF hG hN
  by_cases h0 : F = 0
  · subst h0
    go_enter Tryz.func88, Tryz.ntmps88
    go_wp2_with fail
    refine (cF _).mono ?_
    rintro e w' ⟨rfl, hb2⟩
    have HB2 := hid (HB.out.trans (hb2.mono HB.out.size))
    clear hb2
    go_wp2
    go_ret
    exact ⟨rfl, HB2.out⟩
  · have h1 : (F != 0) = true := by simpa using h0
    have h2 : (F == 0) = false := by simpa using h0
    rw [decide_eq_true h0]
    go_enter Tryz.func88, Tryz.ntmps88
    go_wp2_with fail
    refine (cF _).mono ?_
    rintro e w' ⟨rfl, hb2⟩
    have HB2 := hid (HB.out.trans (hb2.mono HB.out.size))
    clear hb2
    go_wp2
    go_ret
    exact ⟨rfl, HB2.out⟩
end Go.Proofs.YtnpfmoalgphkcaaGreatDoor

set_option linter.unusedVariables false
namespace Go.Proofs.YtnpfmoalgphkcaaGreatDoor
open Go Go.Proofs Go.RowKit Go.Lib

/-- The times of a list that do not fit: asked by ContainsFunc. -/
theorem anyT_any (p : TimeD → Bool) (g : Nat) (lb : Array Value) (eg : ∀ args w, (callFunc g args).run Tryz.prog w = .ok (.enter g args) w) (A : Option Addr) (l : List TimeD) (c B : Nat) (w : World) (hBw : B ≤ w.heap.size)
    (hp : PredBelow Tryz.prog g lb (fun x : TimeF => .agg (encT x).toArray) (fun x => p x.1) w) (h : TimesIn w (fun b => b < B) A l) (hlc : l.length ≤ c) (hc : c ≤ 9223372036854775807) :
    Calls Tryz.prog 60 #[.slice A l.length c, .func (.func g) #[] lb] w fun e w' => e = .returned (.bool (l.any p)) ∧ Below w.heap.size w w' := by
  rcases h with ⟨hle, rfl | ⟨b, off, rfl, hb, hcs⟩⟩
  · exact anyT_nil A c _ w
  · have hcon := AnyQ.slices_ContainsFunc Tryz.laysContainsF 4 Tryz.isAgg26 Tryz.sizeOf26 encT (fun _ => rfl) (fun x => p x.1) g lb eg b off l.length c (listF l hle) w hp (by rw [listF_len]; exact Nat.le_refl _) (by omega) (by show b < w.heap.size; omega) (fun j hj i v hv => by
      have hj' : j < l.length := by rwa [listF_len] at hj
      refine hcs j l[j] (List.getElem?_eq_getElem hj') i v ?_
      have e : (listF l hle)[j]! = ⟨l[j], hle _ (List.getElem_mem hj')⟩ := by
        rw [getElem!_pos (listF l hle) j hj]
        simp [listF]
      rw [e] at hv
      exact hv)
    rw [List.take_of_length_le (by rw [listF_len]; exact Nat.le_refl _), listF_any] at hcon
    exact hcon

end Go.Proofs.YtnpfmoalgphkcaaGreatDoor

set_option linter.unusedVariables false
namespace Go.Proofs.YtnpfmoalgphkcaaGreatDoor
open Go Go.Proofs Go.RowKit Go.Lib
open Go.Maps (Keyed string_keyed)
open Go.WideMaps (keyOf_string_mk)

def litS (s : Str) : Lit := .string s
def setR (l : List Str) : DataW Unit := Maps.setOf (.agg []) (l.map litS)
theorem keyLit (s : Str) : WideAt.IsKeyLit (litS s) := by unfold litS; constructor
theorem sameKey_litS (a b : Str) : (litS a).sameKey (litS b) = decide (a = b) := by
  by_cases h : a = b
  · subst h
    rw [WideAt.sameKey_self (keyLit a), decide_eq_true rfl]
  · rw [Maps.sameKey_ne (fun e => h (by unfold litS at e; injection e)), decide_eq_false h]
theorem has_setR (l : List Str) (c : Str) : Maps.has (setR l) (litS c) = decide (c ∈ l) := by
  unfold setR
  rw [Maps.has_setOf _ _ _ (fun x hx => by obtain ⟨s, _, rfl⟩ := List.mem_map.1 hx; exact keyLit s)]
  rw [Bool.eq_iff_iff, List.any_eq_true, decide_eq_true_eq]
  constructor
  · rintro ⟨x, hx, hk⟩
    obtain ⟨s, hs, rfl⟩ := List.mem_map.1 hx
    rw [sameKey_litS, decide_eq_true_eq] at hk
    subst hk
    exact hs
  · intro h
    exact ⟨litS c, List.mem_map.2 ⟨c, h, rfl⟩, by rw [sameKey_litS, decide_eq_true rfl]⟩
theorem setR_snoc (l : List Str) (c : Str) : setR (l ++ [c]) = (setR l).put (litS c) (.agg []) := by
  unfold setR
  rw [List.map_append, List.map_singleton, Maps.setOf_snoc]
theorem below_grown {B : Nat} {w w' : World} (h : Below B w w') (hB : w.heap.size ≤ B) : w.grownBy w' none := ⟨h.os, h.tape, h.output, h.size, fun k hk _ => h.block k (Nat.lt_of_lt_of_le hk hB)⟩
theorem law9 : Keyed Tryz.prog 9 := string_keyed Tryz.underlying9
def addM (l : List Str) (c : Str) : List Str × Int := if c ∈ l then (l, 11) else if l.length = 16 then (l, 2) else (l ++ [c], 0)
theorem grown_none {w w' : World} {B : Nat} (h : w.grownBy w' none) : w.grownBy w' (some B) := ⟨h.os, h.tape, h.output, h.size, fun k hk _ => h.block k hk (by simp)⟩

end Go.Proofs.YtnpfmoalgphkcaaGreatDoor

set_option linter.unusedVariables false
namespace Go.Proofs.YtnpfmoalgphkcaaGreatDoor
open Go Go.Proofs Go.RowKit Go.Lib

def sortS (l : List Str) : List Str := l.mergeSort fun x y => decide (x ≤ y)
def seatsM (s : Str) : Int × Int := if numD 4 s = 0 then (0, 4) else ((numD 4 s : Nat), 0)
def featsM (s : Str) : List Str × Int := if (S3.listM s).2 ≠ 0 then ([], (S3.listM s).2) else if 8 < (S3.listM s).1.length then ([], 2) else (sortS (S3.listM s).1, 0)
def tgo (d s b m n : Int) : List Str → List TimeD → List TimeD × Int
  | [], acc => (acc, 0)
  | p :: ps, acc => if (timeM d s b m n p).2 ≠ 0 then ([], (timeM d s b m n p).2) else tgo d s b m n ps (acc ++ [(timeM d s b m n p).1])
def timesM (d s b m n : Int) (x : Str) : List TimeD × Int :=
  if x = [] then ([], 0) else if (tgo d s b m n (S3.splitL x) []).2 ≠ 0 then ([], (tgo d s b m n (S3.splitL x) []).2)
  else if 24 < (tgo d s b m n (S3.splitL x) []).1.length then ([], 2) else ((tgo d s b m n (S3.splitL x) []).1, 0)
theorem tgo_app (d s b m n : Int) : ∀ (ps : List Str) (acc : List TimeD) (qs : List Str), (tgo d s b m n ps acc).2 = 0 → tgo d s b m n (ps ++ qs) acc = tgo d s b m n qs (tgo d s b m n ps acc).1
  | [], acc, qs, _ => rfl
  | p :: ps, acc, qs, h => by
    simp only [tgo, List.cons_append] at h ⊢
    by_cases hc : (timeM d s b m n p).2 = 0
    · rw [if_neg (by simpa using hc)] at h ⊢
      rw [if_neg (by simpa using hc)]
      exact tgo_app d s b m n ps _ qs h
    · rw [if_pos hc] at h
      exact absurd h hc
theorem tgo_len (d s b m n : Int) : ∀ (ps : List Str) (acc : List TimeD), (tgo d s b m n ps acc).2 = 0 → (tgo d s b m n ps acc).1.length = acc.length + ps.length
  | [], acc, _ => by simp [tgo]
  | p :: ps, acc, h => by
    simp only [tgo] at h ⊢
    by_cases hc : (timeM d s b m n p).2 = 0
    · rw [if_neg (by simpa using hc)] at h ⊢
      rw [tgo_len d s b m n ps _ h]
      simp
      omega
    · rw [if_pos hc] at h
      exact absurd h hc
def setF (d s b m n : Int) (i : Nat) (x : Str) (r : RoomD) : RoomD × Int :=
  match i with
  | 0 => if S3.validC x = true then ((x, r.2), 0) else (([], r.2), 10)
  | 1 => if S3.validC x = true then ((r.1, x, r.2.2), 0) else ((r.1, [], r.2.2), 10)
  | 2 => ((r.1, r.2.1, (seatsM x).1, r.2.2.2), (seatsM x).2)
  | 3 => ((r.1, r.2.1, r.2.2.1, (featsM x).1, r.2.2.2.2), (featsM x).2)
  | 4 => ((r.1, r.2.1, r.2.2.1, r.2.2.2.1, (timesM d s b m n x).1), (timesM d s b m n x).2)
  | _ => (r, 0)
def zeroR : RoomD := ([], [], 0, [], [])
def efold (d s b m n : Int) : List FieldD → Nat → RoomD → RoomD × Int × Int
  | [], _, r => (r, 0, 0)
  | f :: fs, i, r => if (setF d s b m n i f.1 r).2 ≠ 0 then ((setF d s b m n i f.1 r).1, f.2.1, (setF d s b m n i f.1 r).2) else efold d s b m n fs (i + 1) (setF d s b m n i f.1 r).1
/-- A room out of the fields of a record; the column of the field in question; the error. -/
def entryM (d s b m n : Int) (fs : List FieldD) : RoomD × Int × Int := if fs.length ≠ 5 then (zeroR, 0, 9) else efold d s b m n fs 0 zeroR
theorem efold_step (d s b m n : Int) (fs : List FieldD) (i : Nat) (h : i < fs.length) (r : RoomD) :
    efold d s b m n (fs.drop i) i r = if (setF d s b m n i fs[i].1 r).2 ≠ 0 then ((setF d s b m n i fs[i].1 r).1, fs[i].2.1, (setF d s b m n i fs[i].1 r).2) else efold d s b m n (fs.drop (i + 1)) (i + 1) (setF d s b m n i fs[i].1 r).1 := by
  rw [List.drop_eq_getElem_cons h, efold]
def addC (l : List RoomD) (c : Str) : Int := if c ∈ codesR l then 11 else if l.length = 16 then 2 else 0
/-- One record more. -/
def recM (d s b m n : Int) (st : List RoomD × List ProbD) (x : RecD) : List RoomD × List ProbD :=
  if (entryM d s b m n x.2).2.2 ≠ 0 then (st.1, st.2 ++ [(x.1, (entryM d s b m n x.2).2.1, (entryM d s b m n x.2).2.2)])
  else if addC st.1 (entryM d s b m n x.2).1.1 ≠ 0 then (st.1, st.2 ++ [(x.1, (entryM d s b m n x.2).2.1, addC st.1 (entryM d s b m n x.2).1.1)])
  else (st.1 ++ [(entryM d s b m n x.2).1], st.2)
def recsM (d s b m n : Int) (l : List RecD) : List RoomD × List ProbD := l.foldl (recM d s b m n) ([], [])
def readM (d s b m n : Int) (l : List RecD) : List RoomD × List ProbD := if frameB d s b m n = true then recsM d s b m n l else ([], [(0, 0, 1)])
theorem recsM_take (d s b m n : Int) (l : List RecD) (i : Nat) (h : i < l.length) : recsM d s b m n (l.take (i + 1)) = recM d s b m n (recsM d s b m n (l.take i)) l[i] := by
  unfold recsM
  rw [List.take_succ_eq_append_getElem h, List.foldl_append]
  rfl
theorem recM_room_len (d s b m n : Int) (st : List RoomD × List ProbD) (x : RecD) (h : st.1.length ≤ 16) : (recM d s b m n st x).1.length ≤ 16 := by
  unfold recM
  split
  · exact h
  · split
    · exact h
    · rename_i h2
      unfold addC at h2
      by_cases h3 : (entryM d s b m n x.2).1.1 ∈ codesR st.1
      · rw [if_pos h3] at h2; simp at h2
      · rw [if_neg h3] at h2
        by_cases h4 : st.1.length = 16
        · rw [if_pos h4] at h2; simp at h2
        · simp; omega
theorem recsM_len (d s b m n : Int) (l : List RecD) : (recsM d s b m n l).1.length ≤ 16 := by
  unfold recsM
  have : ∀ (l : List RecD) (st : List RoomD × List ProbD), st.1.length ≤ 16 → (l.foldl (recM d s b m n) st).1.length ≤ 16 := by
    intro l
    induction l with
    | nil => exact fun st h => h
    | cons x r ih => exact fun st h => ih _ (recM_room_len d s b m n st x h)
  exact this l _ (by simp)
theorem recsM_probs (d s b m n : Int) (l : List RecD) : (recsM d s b m n l).2.length ≤ l.length := by
  unfold recsM
  have : ∀ (l : List RecD) (st : List RoomD × List ProbD), (l.foldl (recM d s b m n) st).2.length ≤ st.2.length + l.length := by
    intro l
    induction l with
    | nil => exact fun st => Nat.le_refl _
    | cons x r ih =>
      intro st
      rw [List.foldl_cons]
      refine Nat.le_trans (ih _) ?_
      have : (recM d s b m n st x).2.length ≤ st.2.length + 1 := by
        unfold recM
        split
        · simp
        · split <;> simp
      simp
      omega
  simpa using this l ([], [])
/-- The codes of the rooms that were read, in the map's words. -/
theorem addM_codes (l : List RoomD) (c : Str) : (addM (codesR l) c).2 = addC l c ∧ (addM (codesR l) c).1 = if addC l c = 0 then codesR l ++ [c] else codesR l := by
  unfold addM addC
  have e : (codesR l).length = l.length := by simp [codesR]
  rw [e]
  by_cases h : c ∈ codesR l
  · rw [if_pos h, if_pos h]; simp
  · rw [if_neg h, if_neg h]
    by_cases h2 : l.length = 16
    · rw [if_pos h2, if_pos h2]; simp
    · rw [if_neg h2, if_neg h2]; simp
end Go.Proofs.YtnpfmoalgphkcaaGreatDoor

