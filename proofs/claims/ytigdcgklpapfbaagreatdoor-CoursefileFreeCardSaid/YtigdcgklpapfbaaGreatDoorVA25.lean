/-
  The walk of Plain. Conditions: as in R7Q.
  The sanity check of coursefile's statements: a class is read, and has its times. Condition: the variables hold what their text lays.
  The next made number, named: Next of timetablemade.Dice gives back a function of the list and the place. Conditions: the dice lie in memory.
  What is kept while the dice give out numbers, and what a function hands back through a cell. Conditions: as the lemmas state.
-/
import Derived.Test.YtigdcgklpapfbaaGreatDoorVA01
import Derived.Test.YtigdcgklpapfbaaGreatDoorVA02
import Derived.Test.YtigdcgklpapfbaaGreatDoorVA03
import Derived.Test.YtigdcgklpapfbaaGreatDoorVA04
import Derived.Test.YtigdcgklpapfbaaGreatDoorVA05
import Derived.Test.YtigdcgklpapfbaaGreatDoorVA06
import Derived.Test.YtigdcgklpapfbaaGreatDoorVA07
import Derived.Test.YtigdcgklpapfbaaGreatDoorVA08
import Derived.Test.YtigdcgklpapfbaaGreatDoorVA09
import Derived.Test.YtigdcgklpapfbaaGreatDoorVA10
import Derived.Test.YtigdcgklpapfbaaGreatDoorVA11
import Derived.Test.YtigdcgklpapfbaaGreatDoorVA12
import Derived.Test.YtigdcgklpapfbaaGreatDoorVA13
import Derived.Test.YtigdcgklpapfbaaGreatDoorVA14
import Derived.Test.YtigdcgklpapfbaaGreatDoorVA15
import Derived.Test.YtigdcgklpapfbaaGreatDoorVA16
import Derived.Test.YtigdcgklpapfbaaGreatDoorVA17
import Derived.Test.YtigdcgklpapfbaaGreatDoorVA18
import Derived.Test.YtigdcgklpapfbaaGreatDoorVA19
import Derived.Test.YtigdcgklpapfbaaGreatDoorVA20
import Derived.Test.YtigdcgklpapfbaaGreatDoorVA21
import Derived.Test.YtigdcgklpapfbaaGreatDoorVA22
import Derived.Test.YtigdcgklpapfbaaGreatDoorVA23
import Derived.Test.YtigdcgklpapfbaaGreatDoorVA24
import Derived.Test.YtigdcgklpapfbaaGreatDoorProg
import Derived.WalkKit
import Derived.WalkSpells
import Derived.WalkLawsBesides
import Derived.Lib.Hide
import Derived.Deep.QuietTactic
import Derived.BigQuiet
import Derived.Laws.Rows
import Derived.OwnWalk
import Derived.Lib.BufferWrite
import Derived.Lib.UnsafeStr
import Derived.Laws.IdiomStrings
import Derived.Laws.BytesArg
import Derived.Laws.BytesString
import Derived.Laws.OwnMore
import Derived.Lib.IndexLaws
import Derived.Lib.ItoaNum
import Derived.Lib.Atoi
import Derived.Lib.Bytealg
import Derived.Deep.RegionLaw
import Derived.Deep.AppendLies
import Derived.Maps.AppendAt
import Derived.Laws.BitsAllLaws
import Derived.Laws.BitsLemmas
import Derived.Deep.MidRow
import Derived.Shelf.Strings.Builder1
import Derived.Shelf.Strings.Builder2
import Derived.Shelf.Strings.OnBuilder
import Derived.Shelf.Strings.Trim
import Derived.Shelf.Small.Bits
import Derived.Shelf.Small.Strs
import Derived.Shelf.Small.Wraps
import Derived.Shelf.Strings.BuilderF
import Derived.Shelf.Strings.BuilderK
import Derived.Shelf.Strings.Builder2Cap
import Derived.Shelf.Strconv.Atoi
import Derived.Shelf.Strconv.Itoa0
import Derived.Shelf.Strconv.Itoa1
import Derived.Shelf.LaysM
import Derived.Shelf.Strconv.Itoa2
import Derived.Shelf.Strconv.Itoa3
import Derived.Shelf.Strconv.AtoiErrFast
import Derived.Shelf.Strconv.ParseIntEmpty
import Derived.Shelf.Strconv.AtoiFail
import Derived.Shelf.Strconv.Clone
import Derived.Shelf.Strconv.SyntaxError
import Derived.Shelf.LaysC
import Derived.Shelf.Strconv.ToError
import Derived.Shelf.Strconv.AtoiErr
import Derived.Shelf.Strings.Search1
import Derived.Shelf.Strings.Search2
import Derived.Shelf.Strings.Search3
import Derived.Shelf.Strings.Cut
import Derived.Shelf.Strings.Shaped
import Derived.Shelf.Strings.Prefix
import Derived.Shelf.Strings.Runes
import Derived.Shelf.Strings.AsciiSet
import Derived.Shelf.Bits.Mul64
import Derived.Shelf.Strings.Repeat
import Derived.Shelf.Unicode.DecodeSlow
import Derived.Shelf.Strings.BuilderCap
import Derived.Shelf.Slices.Turned
import Derived.Ground.SlgfProg
import Derived.Shelf.SlicesE.IndexFunc
import Derived.Lib.AtoiErrMem
import Derived.Handy
import Derived.RangeFuncBox
import Derived.RangeFuncNested
import Derived.RangeFuncBound
import Derived.RangeFuncCalls
import Derived.RangeFuncLeaves
import Derived.Shelf.Abstract
import Derived.Shelf.RegionOpen
import Derived.OwnWalkIn
import Derived.Lib.SlTrimSet
import Derived.Shelf.Strings.SlTrimAscii
import Derived.Laws.ResultCell
import Derived.RegionTactic
import Derived.Lib.Repeat
import Derived.Deep.RegionHeld3
import Derived.Lib.SlicesS
import Derived.TacticsInMore
import Derived.LoopNIn
import Derived.LoopIn
import Derived.Deep.DeepCutAuto
import Derived.Lib.Join
import Derived.Laws.Concat
import Derived.Maps.OwnSet
import Derived.Maps.Range
import Derived.Sort.EncStr
import Derived.Shelf.SlGeneric
import Derived.Shelf.Sort.Plain
import Derived.Shelf.Slices.In.SortNone
import Derived.Ground.NamesProg
import Derived.Sort.OwnSorted
import Derived.Sort.Grow
import Derived.Shelf.SlSortCmp.NoneTotal
import Derived.Ground.SlsfProg
import Derived.Shelf.SlicesQ.Contains
import Derived.Ground.SlgqProg
import Derived.StillTailTactics
import Derived.Laws.StructEq
import Derived.WalkMore
set_option linter.unusedVariables false
namespace Go.Proofs.YtigdcgklpapfbaaGreatDoor
open Go Go.Proofs Go.RowKit Go.Lib

/-- What holds while the fields of one record are laid down: the record's box X, whose list owns a row from X + 1 on; below X nothing has turned since wz. -/
structure PIn (X : Nat) (line : Int) (wz w : World) (l : List FieldD) : Prop where
  x : ∃ A c, w.heap[X]? = some (.cells #[.int .i64 line, .slice A l.length c] 45 (0, 0)) ∧ FieldRow w (X + 1) (.slice A l.length c) l
  b : Below X wz w

theorem PIn.snoc {X g7 cap7 k cx : Nat} {line : Int} {wz wr w7 : World} {L0 : List FieldD} {f : FieldD} {Ax : Option Addr} (hb : Below X wz wr) (hxr : wr.ownsRow (X + 1) 107 3 (.slice Ax k cx) k (fieldVals L0)) (hg : wr.grownBy w7 (Value.slice Ax k cx).ownBlock)
    (hx7 : w7.heap[X]? = some (.cells #[.int .i64 line, .slice Ax k cx] 45 (0, 0))) (hown : w7.ownsRow (X + 1) 107 3 (.slice (some ⟨g7, 0, none⟩) (k + 1) cap7) (k + 1) (fieldVals L0 ++ fieldVs f)) (hl : L0.length = k) (hXs : X < wr.heap.size) :
    PIn X line wz (w7.setCell ⟨X, 1, none⟩ (.slice (some ⟨g7, 0, none⟩) (k + 1) cap7)) (L0 ++ [f]) := by
  have hs := hg.size
  have hg2 : w7.grownBy (w7.setCell ⟨X, 1, none⟩ (.slice (some ⟨g7, 0, none⟩) (k + 1) cap7)) (some X) := ⟨by simp [World.setCell], by simp [World.setCell], by simp [World.setCell], by simp [World.setCell], fun j _ hj => Below.heap_setCell w7 ⟨X, 1, none⟩ _ j (fun e => hj (by rw [show j = X from e]))⟩
  have hn : (L0 ++ [f]).length = k + 1 := by simp [hl]
  refine ⟨⟨some ⟨g7, 0, none⟩, cap7, ?_, ?_⟩, ?_⟩
  · rw [hn, heap_setCell_same w7 X 1 _ _ _ hx7]; rfl
  · unfold FieldRow
    rw [hn, fieldVals_app]
    refine World.ownsRow.kept ?_ hg2 (.inr fun e => ?_)
    · simpa [fieldVals] using hown
    · have := (World.ownsRow.lt hown _ e).1
      omega
  · exact (hb.grown hg (by omega) (fun j e => by have := (World.ownsRow.lt hxr j e).1; omega)).grown hg2 (by omega) (fun j e => by injection e; omega)
theorem RecRow.snoc {wz wr w9 : World} {B X n : Nat} {v v' : Value} {l : List RecD} {x : RecD} {Ax : Option Addr} {cx : Nat} {L : List RecA} (hL : L.map (·.1) = l) (ho : wz.ownsRow B 45 2 v n (recVals L))
    (hr : ∀ p ∈ L, FieldsIn wz (fun b => B ≤ b ∧ b < wz.heap.size ∧ v.ownBlock ≠ some b) p.2.1 p.1.2 ∧ p.1.2.length ≤ p.2.2 ∧ p.2.2 ≤ 9223372036854775807) (hn : L.length = n) (hX : wz.heap.size = X) (hBX : B ≤ X) (hb : Below X wz wr)
    (hf : FieldRow wr (X + 1) (.slice Ax x.2.length cx) x.2) (hg : wr.grownBy w9 v.ownBlock) (hat : v'.ownBlock = v.ownBlock ∨ ∃ j, v'.ownBlock = some j ∧ wr.heap.size ≤ j)
    (hown : w9.ownsRow B 45 2 v' (n + 1) (recVals L ++ recVs (x, (Ax, cx)))) : RecRow w9 B v' (l ++ [x]) := by
  have hs := hg.size
  have hbs := hb.size
  have hvl : ∀ g, v.ownBlock = some g → B ≤ g ∧ g < X := fun g e => hX ▸ World.ownsRow.lt ho g e
  have hne : ∀ b, b < wr.heap.size → v.ownBlock ≠ some b → v'.ownBlock ≠ some b := by
    intro b hb hne
    rcases hat with e | ⟨j, e, hj⟩
    · rw [e]; exact hne
    · rw [e]; intro e0; injection e0 with e0; omega
  refine ⟨L ++ [(x, (Ax, cx))], by rw [List.map_append, hL]; rfl, ?_, fun p hp => ?_⟩
  · rw [List.length_append, List.length_singleton, hn, recVals_app]
    simpa [recVals] using hown
  · rcases List.mem_append.1 hp with hp | hp
    · obtain ⟨f1, f2, f3⟩ := hr p hp
      refine ⟨(f1.kept (w' := w9) (fun b hb' => ?_)).mono (fun b hb' => ⟨hb'.1, by omega, hne b (by omega) hb'.2.2⟩), f2, f3⟩
      rw [hg.block b (by omega) (fun e => hb'.2.2 e.symm), hb.block b (by omega)]
    · rw [List.mem_singleton] at hp
      subst hp
      obtain ⟨A5, c5, eA, hl5, hc5, hI5⟩ := hf.fieldsIn
      obtain ⟨rfl, rfl⟩ : Ax = A5 ∧ cx = c5 := by injection eA with e1 _ e3; exact ⟨e1, e3⟩
      have hown5 : ∀ b, (Value.slice Ax x.2.length cx).ownBlock = some b → X + 1 ≤ b ∧ b < wr.heap.size := fun b e => World.ownsRow.lt hf b e
      have hnv : ∀ b, (Value.slice Ax x.2.length cx).ownBlock = some b → v.ownBlock ≠ some b := fun b e e2 => by have := hown5 b e; have := hvl b e2; omega
      refine ⟨(hI5.kept (w' := w9) (fun b hb' => hg.block b (hown5 b hb').2 (fun e => hnv b hb' e.symm))).mono (fun b hb' => ⟨by have := hown5 b hb'; omega, by have := hown5 b hb'; omega, hne b (hown5 b hb').2 (hnv b hb')⟩), hl5, hc5⟩
set_option maxHeartbeats 8000000 in
set_option maxRecDepth 100000 in
theorem plain_any (A : Option Addr) (rows : List (List Str)) (c B : Nat) (w : World) (hB : B ≤ w.heap.size) (h : RowsIn w (fun b => b < B) A rows) (hr : rows.length ≤ 1000000) (hf : ∀ r ∈ rows, r.length ≤ 1000000) (hs : ∀ r ∈ rows, ∀ s ∈ r, s.length ≤ 1000000) :
    Calls Tryz.prog 32 #[.slice A rows.length c] w fun e w' => (∃ v, e = .returned v ∧ RecRow w' w.heap.size v (plainM rows)) ∧ Below w.heap.size w w' := by
  obtain ⟨iF, hiF, hzF, hsF, hbF⟩ := info_parts infoField
  obtain ⟨iR, hiR, hzR, hsR, hbR⟩ := info_parts infoRec
  have HH := hid h
  have HF := hid hf
  have HS := hid hs
  clear h hf hs
  go_enter Tryz.func32, Tryz.ntmps32
  go_wp2
  go_loopw [3, 4, 5, 6, 7] (fun v iv _ _ _ wr => ∃ (i : Nat) (Ao : Option Addr) (no co : Nat), v = .slice Ao no co ∧ iv = .int .i64 (i : Int) ∧ i ≤ rows.length ∧ Hid (RecRow wr w.heap.size (.slice Ao no co) (plainM (rows.take i))) ∧ Hid (Below w.heap.size w wr)) (fun _ iv _ _ _ _ => rows.length - (RowKit.intOf iv).toNat)
  case atStart => exact ⟨0, _, _, _, rfl, rfl, Nat.zero_le _, hid ⟨[], rfl, World.ownsRow_nil _ _ _ _, fun p hp => by simp at hp⟩, hid (Below.refl _ _)⟩
  case round =>
    obtain ⟨i, Ao, no, co, rfl, rfl, hi, hO, hBw⟩ := hrel
    by_cases hlt : i < rows.length
    · have hltz : (i : Int) < (rows.length : Int) := by omega
      have q1 : IntKind.i64.wrap ((i : Int) + 1) = (i : Int) + 1 := IntWalk.i64_in _ (by omega)
      obtain ⟨b1, o1, A1, c1, rfl, hb1, g1, e1, e2, s1⟩ := ((HH.out.mono (fun b hb => Nat.lt_of_lt_of_le hb hB)).below hBw.out).at_ hlt
      have hfl := HF.out _ (List.getElem_mem hlt)
      have hsl := HS.out _ (List.getElem_mem hlt)
      have hst := plainM_take rows i hlt
      obtain ⟨row, hrow⟩ : ∃ r, rows[i] = r := ⟨_, rfl⟩
      rw [hrow] at g1 e1 s1 hfl hsl hst
      have HST := hid hst
      have HSL := hid hsl
      have S1 := hid s1
      have hX0 := heap_alloc_new wr (.cells #[.int .i64 ((i : Int) + 1), .slice none 0 0] 45)
      have hB0 := (Below.refl wr.heap.size wr).alloc (Nat.le_refl _) (.cells #[.int .i64 ((i : Int) + 1), .slice none 0 0] 45)
      have hs0 : (wr.alloc (.cells #[.int .i64 ((i : Int) + 1), .slice none 0 0] 45)).heap.size = wr.heap.size + 1 := by simp
      have HX0 := hid hX0
      have HB0 := hid hB0
      have HS0 := hid hs0
      clear hst hsl s1 hrow hX0 hB0 hs0
      go_wp2_with fail
      generalize wr.alloc (.cells #[.int .i64 ((i : Int) + 1), .slice none 0 0] 45) = wx at HX0 HB0 HS0 ⊢
      have hk0 : PIn wr.heap.size ((i : Int) + 1) wr wx [] := ⟨⟨none, 0, HX0.out, World.ownsRow_nil _ _ _ _⟩, HB0.out⟩
      have hwz := hBw.out.size
      have HK0 := hid hk0
      clear hk0 HX0 HB0 HS0
      generalize hz : wr = wz at *
      obtain ⟨X, hX⟩ : ∃ X, wz.heap.size = X := ⟨_, rfl⟩
      have hbX : b1 < X := by omega
      have HBW := hid hBw.out
      have HO := hid hO.out
      rw [hX] at HK0 hwz ⊢
      clear hz hO hBw
      go_loopw [6, 7] (fun cv kv wr2 => ∃ (k : Nat) (cl : Int), cv = .int .i64 cl ∧ kv = .int .i64 (k : Int) ∧ k ≤ row.length ∧ Hid (cl = colAt 1 (row.take k)) ∧ Hid (PIn X ((i : Int) + 1) wz wr2 (colsM 1 (row.take k)))) (fun _ kv _ => row.length - (RowKit.intOf kv).toNat)
      case atStart => exact ⟨0, 1, rfl, rfl, Nat.zero_le _, hid rfl, hid HK0.out⟩
      case round =>
        obtain ⟨k, cl, rfl, rfl, hk, hcl, hP⟩ := hrel
        obtain ⟨⟨Ax, cx, hxb, hxr⟩, hPb⟩ := hP.out
        have kc : ∀ b o : Nat, b < w.heap.size → wr.cell? ⟨b, o, none⟩ = wz.cell? ⟨b, o, none⟩ := fun b o hb => hPb.cell (p := ⟨b, o, none⟩) (by show b < X; omega)
        have g2 : wr.cell? ⟨b1, o1 + i, none⟩ = some (.slice A1 row.length c1) := by rw [kc b1 _ hb1]; exact g1
        have cx0 : wr.cell? ⟨X, 0, none⟩ = some (.int .i64 ((i : Int) + 1)) := by rw [Lib.cell_of_heap hxb]; rfl
        have cx1 : wr.cell? ⟨X, 1, none⟩ = some (.slice Ax (colsM 1 (row.take k)).length cx) := by rw [Lib.cell_of_heap hxb]; rfl
        have fx1 : wr.frozen? ⟨X, 1, none⟩ = false := by simp [World.frozen?, hxb]
        by_cases hlk : k < row.length
        · have hlkz : (k : Int) < (row.length : Int) := by omega
          obtain ⟨b2, o2, rfl, hb2, g3⟩ := S1.out.at_ hlk
          have hXs : X < wr.heap.size := (Array.getElem?_eq_some_iff.1 hxb).1
          have hb1s : b1 < wr.heap.size := by omega
          have hb2s : b2 < wr.heap.size := by omega
          have g3' : wr.cell? ⟨b2, o2 + k, none⟩ = some (.string (ba row[k])) := by rw [kc b2 _ hb2]; exact g3
          obtain ⟨str, hstr⟩ : ∃ t, row[k] = t := ⟨_, rfl⟩
          rw [hstr] at g3'
          have hnk : (colsM 1 (row.take k)).length = k := by rw [colsM_len, List.length_take]; omega
          have hslen := HSL.out str (by rw [← hstr]; exact List.getElem_mem hlk)
          have hcols : colsM 1 (row.take (k + 1)) = colsM 1 (row.take k) ++ [(str, cl, false)] := by rw [List.take_succ_eq_append_getElem hlk, colsM_app, hstr, hcl.out]; rfl
          have hcl2 : colAt 1 (row.take (k + 1)) = cl + ((str.length : Int) + 1) := by rw [List.take_succ_eq_append_getElem hlk, colAt_snoc, hstr, hcl.out]
          have hclr := colAt_range 1 (row.take k) (fun s hs => HSL.out s (List.mem_of_mem_take hs))
          rw [← hcl.out, List.length_take] at hclr
          unfold FieldRow at hxr
          rw [hnk] at hxr cx1 hxb
          have HXB := hid hxb
          obtain ⟨L0, hL0⟩ : ∃ L0, colsM 1 (row.take k) = L0 := ⟨_, rfl⟩
          rw [hL0] at hxr hcols
          have HXR := hid hxr
          have HM : Hid (k + 1 ≤ maxLen) := hid (by unfold maxLen; omega)
          have HM2 : Hid ((k + 1) * 32 ≤ 140737488355328) := hid (by omega)
          have HCO := hid hcols
          have HC2 := hid hcl2
          have hwq : IntKind.i64.wrap ((k : Int) + 1) = (k : Int) + 1 := IntWalk.i64_in _ (by omega)
          have hsz : (ba str).size = str.length := Lib.size_eq _
          have HL0 : Hid (L0.length = k) := hid (by rw [← hL0]; exact hnk)
          have HPB := hid hPb
          have G3 : Hid (wz.cell? ⟨b2, o2 + k, none⟩ = some (.string (ba str))) := hid (by rw [← hstr]; exact g3)
          clear hxr hcols hcl2 kc g3 hnk hL0
          obtain ⟨z, hzs⟩ : ∃ z, ba str = z := ⟨_, rfl⟩
          rw [hzs] at g3' hsz G3
          have HZS := hid hzs
          clear hzs
          have HFN : Hid (∀ (w : World) (j : Nat) (u : Value), (fieldVs (str, cl, false))[j]? = some u → (w.alloc (.cells #[.string z, .int .i64 cl, .bool false] 107)).cell? ((⟨w.heap.size, 0, none⟩ : Addr).add j) = some u) := hid (fun w j u h => by
            have e := heap_alloc_new w (.cells #[.string z, .int .i64 cl, .bool false] 107)
            rw [Addr.add_lit, Lib.cell_of_heap e]
            match j, h with
            | 0, h => rw [← HZS.out]; exact h
            | 1, h => exact h
            | 2, h => exact h
            | j + 3, h => simp [fieldVs] at h)
          have HF1 : Hid (∀ u ∈ fieldVs (str, cl, false), u.oneCell' = true) := hid (fun u hu => by
            simp [fieldVs] at hu
            rcases hu with rfl | rfl | rfl <;> rfl)
          go_wp2_with fail
          go_region_law (
            (refine step_append_lies _ ?_ (.tmp 27) (.tmp 37) 43 ?_ (X + 1) 107 iF (.agg #[.string ⟨#[]⟩, .int .i64 0, .bool false]) 3 32 Tryz.underlying43 hiF hzF hsF hbF ?_ ?_ (.slice Ax k cx) k (fieldVals L0) ?_ ?_ ⟨wr.heap.size, 0, none⟩ 1 1 (fieldVs (str, cl, false)) ?_ ?_ ?_ ?_ (by decide) HM.out HM2.out ?_ (wr.heap.size + 1) ?_ ?_
             · rfl
             · rfl
             · rfl
             · decide
             · simp [Act.eval]
             · exact row_drawn (World.ownsRow.alloc HXR.out _) 1
             · simp [Act.eval]
             · rfl
             · exact HFN.out wr
             · exact HF1.out
             · simp; omega
             · simp
             intro g7 cap7 w7 hown7 hgrow7 hat7 hlt7
             have HOW := hid hown7
             have HGR := hid hgrow7
             have HAT := hid hat7
             have hgw : wr.grownBy w7 (Value.slice Ax k cx).ownBlock := ⟨hgrow7.os, hgrow7.tape, hgrow7.output, by have := hgrow7.size; simp at this; omega, fun j hj hr => (hgrow7.block j (by simp; omega) hr).trans (Below.heap_alloc wr _ j hj)⟩
             have hx7 : w7.heap[X]? = some (.cells #[.int .i64 ((i : Int) + 1), .slice Ax k cx] 45 (0, 0)) := (hgrow7.block X (by simp; omega) (fun e => by have := (World.ownsRow.lt HXR.out X e.symm).1; omega)).trans ((Below.heap_alloc wr _ X hXs).trans HXB.out)
             have c71 : w7.cell? ⟨X, 1, none⟩ = some (.slice Ax k cx) := by rw [Lib.cell_of_heap hx7]; rfl
             have f71 : w7.frozen? ⟨X, 1, none⟩ = false := by simp [World.frozen?, hx7]
             have HX7 := hid hx7
             have hP8 := PIn.snoc HPB.out HXR.out hgw hx7 hown7 HL0.out hXs
             have HP8 := hid hP8
             clear hown7 hgrow7 hat7 hx7 hgw hP8 HGR HOW HAT HX7))
          all_goals
            obtain ⟨w8, h8⟩ : ∃ w8, w7.setCell ⟨X, 1, none⟩ (.slice (some ⟨g7, 0, none⟩) (k + 1) cap7) = w8 := ⟨_, rfl⟩
            rw [h8] at HP8 ⊢
            clear h8
            have kc8 : ∀ b o : Nat, b < w.heap.size → w8.cell? ⟨b, o, none⟩ = wz.cell? ⟨b, o, none⟩ := fun b o hb => HP8.out.b.cell (p := ⟨b, o, none⟩) (by show b < X; omega)
            have g28 : w8.cell? ⟨b1, o1 + i, none⟩ = some (.slice (some ⟨b2, o2, none⟩) row.length c1) := by rw [kc8 b1 _ hb1]; exact g1
            have g38 : w8.cell? ⟨b2, o2 + k, none⟩ = some (.string z) := by rw [kc8 b2 _ hb2]; exact G3.out
            have hq1 : IntKind.i64.wrap ((z.size : Int) + 1) = (z.size : Int) + 1 := IntWalk.i64_in _ (by omega)
            have hq2 : IntKind.i64.wrap (cl + ((z.size : Int) + 1)) = cl + ((z.size : Int) + 1) := IntWalk.i64_in _ (by omega)
            clear kc8
            go_wp2
            refine ⟨⟨k + 1, _, rfl, by go_num, by omega, hid HC2.out.symm, hid ?_⟩, by simp [RowKit.intOf]; omega⟩
            rw [HCO.out]
            exact HP8.out
        · have hkr : k = row.length := by omega
          subst hkr
          rw [List.take_of_length_le (Nat.le_refl _)] at hcl hxr hxb cx1
          rw [colsM_len] at cx1 hxb hxr
          have hlkz : ¬ ((row.length : Int) < (row.length : Int)) := by omega
          have hXs : X < wr.heap.size := (Array.getElem?_eq_some_iff.1 hxb).1
          have hb1s : b1 < wr.heap.size := by omega
          obtain ⟨L, hL, ho, hr⟩ := HO.out
          have hLl : L.length = i := by
            have := congrArg List.length hL
            rw [List.length_map, plainM_len, List.length_take] at this
            omega
          have hno : no = i := by
            rcases ho.2 with ⟨hv, h0⟩ | ⟨g, cap, cur, hv, _⟩
            · injection hv with _ h1 _; omega
            · injection hv with _ h1 _; omega
          subst hno
          rw [hLl] at ho
          have ho2 : wr.ownsRow w.heap.size 45 2 (.slice Ao no co) no (recVals L) := row_under ho (by rw [hX]; exact hPb)
          have HO2 := hid ho2
          have HL := hid hL
          have HLl := hid hLl
          have HRR := hid hr
          have HOZ := hid ho
          have HM : Hid (no + 1 ≤ maxLen) := hid (by unfold maxLen; omega)
          have HM2 : Hid ((no + 1) * 32 ≤ 140737488355328) := hid (by omega)
          have HXR := hid hxr
          have HPB := hid hPb
          have HSZ : Hid (∀ o : Obj, w.heap.size ≤ (wr.alloc o).heap.size) := hid (fun o => by simp; omega)
          have HNW : Hid (∀ (j : Nat) (u : Value), ([Value.int .i64 ((no : Int) + 1), .slice Ax row.length cx] : List Value)[j]? = some u → (wr.alloc (.cells #[.int .i64 ((no : Int) + 1), .slice Ax row.length cx] 45)).cell? ((⟨wr.heap.size, 0, none⟩ : Addr).add j) = some u) := hid (fun j u h => by
            have e := heap_alloc_new wr (.cells #[.int .i64 ((no : Int) + 1), .slice Ax row.length cx] 45)
            rw [Addr.add_lit, Lib.cell_of_heap e]
            match j, h with
            | 0, h => exact h
            | 1, h => exact h
            | j + 2, h => simp at h)
          have HN1 : Hid (∀ u ∈ ([Value.int .i64 ((no : Int) + 1), .slice Ax row.length cx] : List Value), u.oneCell' = true) := hid (fun u hu => by
            simp at hu
            rcases hu with rfl | rfl <;> rfl)
          clear ho2 hL hr ho hxr hPb hLl kc
          go_wp2_with (at_builtin; refine wpList_append_own_at _ rfl _ _ 42 rfl w.heap.size 45 iR (.agg #[.int .i64 0, .slice none 0 0]) 2 32 Tryz.underlying42 hiR hzR hsR hbR rfl (by decide) _ no (recVals L) rfl (World.ownsRow.alloc HO2.out _) ⟨wr.heap.size, 0, none⟩ 1 1 [.int .i64 ((no : Int) + 1), .slice Ax row.length cx] rfl rfl HNW.out HN1.out HM.out HM2.out (HSZ.out _) ?_)
          intro v' w9 hown9 hgrow9 hnil9 hat9
          obtain ⟨g', cap', rfl⟩ := ownsRow_succ (k := no) hown9
          have hg9 := grownBy_of_alloc hgrow9
          have hrv : recVs ((((no : Int) + 1, colsM 1 row), (Ax, cx)) : RecA) = [.int .i64 ((no : Int) + 1), .slice Ax row.length cx] := by simp [recVs, colsM_len]
          have hsn := RecRow.snoc (x := ((no : Int) + 1, colsM 1 row)) HL.out HOZ.out HRR.out HLl.out hX (by omega) HPB.out (by have h := HXR.out; rw [← colsM_len 1 row] at h; exact h) hg9 (hat9.imp id (fun h => ⟨_, h, by simp⟩)) (by rw [hrv]; exact hown9)
          rw [← HST.out] at hsn
          have hb9 : Below w.heap.size w w9 := (HBW.out.trans (HPB.out.mono (by omega))).grown hg9 (by omega) (fun j e => by have := (World.ownsRow.lt HO2.out j e).1; omega)
          have HSN := hid hsn
          have HB9 := hid hb9
          clear hsn hb9 hg9 hown9 hgrow9 hnil9 hat9 hrv
          go_wp2
          exact ⟨⟨no + 1, _, _, _, rfl, by go_num, by omega, HSN, HB9⟩, by simp [RowKit.intOf]; omega⟩
    · have hltz : ¬ (i : Int) < (rows.length : Int) := by omega
      have HO2 : Hid (RecRow wr w.heap.size (.slice Ao no co) (plainM rows)) := hid (by have := hO.out; rwa [List.take_of_length_le (by omega)] at this)
      go_wp2
      go_ret
      exact ⟨⟨_, rfl, HO2.out⟩, hBw.out⟩
end Go.Proofs.YtigdcgklpapfbaaGreatDoor

set_option linter.unusedVariables false
namespace Go.Proofs.YtigdcgklpapfbaaGreatDoor.S10
open Go Go.Proofs Go.RowKit Go.Lib Go.Proofs.YtigdcgklpapfbaaGreatDoor

def awRow : List Str := [[99, 49], [77, 65], [76], [50], [111, 100, 100, 47, 101, 118, 101, 110], [51, 48], [], [97, 100, 97], [77, 111, 32, 51, 59, 84, 117, 32, 49]]
def awClass : ClassD := ⟨[99, 49], [77, 65], [76], 2, [5, 10], 30, [], [[97, 100, 97]], [(0, 2), (1, 0)]⟩
theorem aw0 : frameB 5 10 480 45 4 = true := by kernel_rfl
theorem aw1 : S3.validC [99, 49] = true := by kernel_rfl
theorem aw2 : S3.validC [77, 65] = true := by kernel_rfl
theorem aw3 : S3.validC [76] = true := by kernel_rfl
theorem aw4 : lenM 10 [50] = (2, 0) := by kernel_rfl
theorem aw5 : patsM 4 [111, 100, 100, 47, 101, 118, 101, 110] = ([5, 10], 0) := by kernel_rfl
theorem aw6 : seatsF [51, 48] = (30, 0) := by kernel_rfl
theorem aw7 : featsM [] = ([], 0) := by
  have h : S3.listM [] = ([], 0) := by kernel_rfl
  unfold featsM
  rw [h]
  simp [sortS]
theorem aw7b : featsM [97, 100, 97] = ([[97, 100, 97]], 0) := by
  have h : S3.listM [97, 100, 97] = ([[97, 100, 97]], 0) := by kernel_rfl
  unfold featsM
  rw [h]
  simp [sortS]
theorem aw9 : startsM 5 10 480 45 2 [77, 111, 32, 51, 59, 84, 117, 32, 49] = ([(0, 2), (1, 0)], 0) := by
  have h : partsM (startM 5 10 480 45 2) 59 24 [77, 111, 32, 51, 59, 84, 117, 32, 49] = ([(0, 2), (1, 0)], 0) := by kernel_rfl
  have hd : dupB [((0 : Int), (2 : Int)), (1, 0)] = false := by kernel_rfl
  have hs : sortT [((0 : Int), (2 : Int)), (1, 0)] = [(0, 2), (1, 0)] := by
    unfold sortT
    exact List.mergeSort_of_pairwise (by simp [leS])
  unfold startsM
  rw [if_neg (by simp), h]
  dsimp only
  rw [if_neg (by simp), hd, if_neg (by simp), hs]
theorem aw8 : entryM 5 10 480 45 4 (colsM 1 awRow) = (awClass, 0, 0) := by
  unfold entryM awRow
  simp [colsM, efold, setF, zeroC, aw1, aw2, aw3, aw4, aw5, aw6, aw7, aw7b, aw9, awClass]
theorem awRead : readM 5 10 480 45 4 (plainM [awRow]) = ([awClass], []) := by
  have h : plainM [awRow] = [(1, colsM 1 awRow)] := rfl
  unfold readM
  rw [if_pos aw0, h]
  simp [recsM, recM, aw8, addC, codesK]
theorem awTimes : (timesC 5 10 480 45 awClass).length = 4 := by kernel_rfl
theorem awTot : awClass.pats.length * (startsOf 5 10 awClass).length ≤ 4096 := by
  unfold startsOf awClass
  simp
theorem awSize : ∀ x ∈ plainM [awRow], ∀ f ∈ x.2, f.1.length < 4294967281 := by
  have h : plainM [awRow] = [(1, colsM 1 awRow)] := rfl
  have hl : ∀ p ∈ awRow, p.length < 4294967281 := by
    intro p hp
    simp [awRow] at hp
    rcases hp with rfl | rfl | rfl | rfl | rfl | rfl | rfl | rfl | rfl <;> decide
  intro x hx f hf
  rw [h, List.mem_singleton] at hx
  subst hx
  exact hl _ (by
    have : ∀ g ∈ colsM 1 awRow, g.1 ∈ awRow := by
      intro g hg
      simp [colsM, awRow] at hg
      simp [awRow]
      rcases hg with rfl | rfl | rfl | rfl | rfl | rfl | rfl | rfl | rfl <;> simp
    exact this f hf)
set_option maxHeartbeats 1000000 in
theorem week_any (w : World) : Calls Tryz.prog 45 #[] w (Says (.agg #[.int .i64 5, .int .i64 10, .int .i64 480, .int .i64 45]) w) := by
  unfold Says
  go_enter Tryz.func45, Tryz.ntmps45
  go_wp2
  go_returns
  exact ⟨rfl, (Below.refl _ _).alloc (Nat.le_refl _) _⟩
theorem aw_rows (w : World) : ∃ w2, w2 = (w.alloc (.cells #[.string ⟨#[99, 49]⟩, .string ⟨#[77, 65]⟩, .string ⟨#[76]⟩, .string ⟨#[50]⟩, .string ⟨#[111, 100, 100, 47, 101, 118, 101, 110]⟩, .string ⟨#[51, 48]⟩, .string ⟨#[]⟩, .string ⟨#[97, 100, 97]⟩, .string ⟨#[77, 111, 32, 51, 59, 84, 117, 32, 49]⟩] 9)).alloc (.cells #[.slice (some ⟨w.heap.size, 0, none⟩) 9 9] 30) ∧
    RowsIn w2 (fun k => k < w.heap.size + 2) (some ⟨w.heap.size + 1, 0, none⟩) [awRow] ∧ Below w.heap.size w w2 ∧ w2.heap.size = w.heap.size + 2 := by
  refine ⟨_, rfl, ?_, ((Below.refl _ w).alloc (Nat.le_refl _) _).alloc (by simp) _, by simp⟩
  have e1 := heap_alloc_new w (.cells #[.string ⟨#[99, 49]⟩, .string ⟨#[77, 65]⟩, .string ⟨#[76]⟩, .string ⟨#[50]⟩, .string ⟨#[111, 100, 100, 47, 101, 118, 101, 110]⟩, .string ⟨#[51, 48]⟩, .string ⟨#[]⟩, .string ⟨#[97, 100, 97]⟩, .string ⟨#[77, 111, 32, 51, 59, 84, 117, 32, 49]⟩] 9)
  have hs : (w.alloc (.cells #[.string ⟨#[99, 49]⟩, .string ⟨#[77, 65]⟩, .string ⟨#[76]⟩, .string ⟨#[50]⟩, .string ⟨#[111, 100, 100, 47, 101, 118, 101, 110]⟩, .string ⟨#[51, 48]⟩, .string ⟨#[]⟩, .string ⟨#[97, 100, 97]⟩, .string ⟨#[77, 111, 32, 51, 59, 84, 117, 32, 49]⟩] 9)).heap.size = w.heap.size + 1 := by simp
  generalize w.alloc (.cells #[.string ⟨#[99, 49]⟩, .string ⟨#[77, 65]⟩, .string ⟨#[76]⟩, .string ⟨#[50]⟩, .string ⟨#[111, 100, 100, 47, 101, 118, 101, 110]⟩, .string ⟨#[51, 48]⟩, .string ⟨#[]⟩, .string ⟨#[97, 100, 97]⟩, .string ⟨#[77, 111, 32, 51, 59, 84, 117, 32, 49]⟩] 9) = w1 at e1 hs ⊢
  have e2 := heap_alloc_new w1 (.cells #[.slice (some ⟨w.heap.size, 0, none⟩) 9 9] 30)
  have e3 := (Below.heap_alloc w1 (.cells #[.slice (some ⟨w.heap.size, 0, none⟩) 9 9] 30) w.heap.size (by omega)).trans e1
  rw [hs] at e2
  refine .inr ⟨w.heap.size + 1, 0, rfl, by omega, fun j l hj => ?_⟩
  match j, hj with
  | 0, hj =>
    obtain rfl : awRow = l := by simpa using hj
    refine ⟨some ⟨w.heap.size, 0, none⟩, 9, by rw [Lib.cell_of_heap e2]; rfl, by decide, by decide, .inr ⟨w.heap.size, 0, rfl, by omega, fun j s hj => ?_⟩⟩
    match j, hj with
    | 0, hj => obtain rfl : [99, 49] = s := by simpa [awRow] using hj
               rw [Lib.cell_of_heap e3]; rfl
    | 1, hj => obtain rfl : [77, 65] = s := by simpa [awRow] using hj
               rw [Lib.cell_of_heap e3]; rfl
    | 2, hj => obtain rfl : [76] = s := by simpa [awRow] using hj
               rw [Lib.cell_of_heap e3]; rfl
    | 3, hj => obtain rfl : [50] = s := by simpa [awRow] using hj
               rw [Lib.cell_of_heap e3]; rfl
    | 4, hj => obtain rfl : [111, 100, 100, 47, 101, 118, 101, 110] = s := by simpa [awRow] using hj
               rw [Lib.cell_of_heap e3]; rfl
    | 5, hj => obtain rfl : [51, 48] = s := by simpa [awRow] using hj
               rw [Lib.cell_of_heap e3]; rfl
    | 6, hj => obtain rfl : [] = s := by simpa [awRow] using hj
               rw [Lib.cell_of_heap e3]; rfl
    | 7, hj => obtain rfl : [97, 100, 97] = s := by simpa [awRow] using hj
               rw [Lib.cell_of_heap e3]; rfl
    | 8, hj => obtain rfl : [77, 111, 32, 51, 59, 84, 117, 32, 49] = s := by simpa [awRow] using hj
               rw [Lib.cell_of_heap e3]; rfl
    | j + 9, hj => simp [awRow] at hj
  | j + 1, hj => simp at hj
/-- What lies while the class is looked at. -/
structure KW (w0 : World) (b off bT oT : Nat) (q : ClassA) (W : World) : Prop where
  i : ClassIn W (fun k => k < W.heap.size) awClass q
  c : ClassAt W b off awClass q
  cl : b < W.heap.size
  t : W.cell? ⟨bT, oT + 1, none⟩ = some (.int .i64 2)
  tl : bT < W.heap.size
  b : Below w0.heap.size w0 W
theorem KW.next {w0 W W' : World} {b off bT oT : Nat} {q : ClassA} (h : KW w0 b off bT oT q W) (k : Below W.heap.size W W') : KW w0 b off bT oT q W' :=
  ⟨(h.i.kept (fun j hj => k.block j hj)).mono (fun j hj => Nat.lt_of_lt_of_le hj k.size), h.c.kept (k.block b h.cl), Nat.lt_of_lt_of_le h.cl k.size, (k.cell (p := ⟨bT, oT + 1, none⟩) h.tl).trans h.t, Nat.lt_of_lt_of_le h.tl k.size, h.b.trans (k.mono h.b.size)⟩
theorem KW.ten {w0 w' : World} {b off bT oT cP cF cS cT : Nat} {aP aF aS : Option Addr} (h : KW w0 b off bT oT ⟨aP, cP, aF, cF, aS, cS, some ⟨bT, oT, none⟩, cT⟩ w') : w'.cell? ⟨b, off, none⟩ = some (.string (ba [99, 49])) ∧ w'.cell? ⟨b, off + 1, none⟩ = some (.string (ba [77, 65])) ∧ w'.cell? ⟨b, off + 2, none⟩ = some (.string (ba [76])) ∧ w'.cell? ⟨b, off + 3, none⟩ = some (.int .i64 2) ∧ w'.cell? ⟨b, off + 4, none⟩ = some (.slice aP 2 cP) ∧ w'.cell? ⟨b, off + 5, none⟩ = some (.int .i64 30) ∧ w'.cell? ⟨b, off + 6, none⟩ = some (.slice aF 0 cF) ∧ w'.cell? ⟨b, off + 7, none⟩ = some (.slice aS 1 cS) ∧ w'.cell? ⟨b, off + 8, none⟩ = some (.slice (some ⟨bT, oT, none⟩) 2 cT) ∧ w'.cell? ⟨bT, oT + 1, none⟩ = some (.int .i64 2) :=
  ⟨h.c.c0, h.c.c1, h.c.c2, h.c.c3, h.c.c4, h.c.c5, h.c.c6, h.c.c7, h.c.c8, h.t⟩
set_option maxHeartbeats 16000000 in
set_option maxRecDepth 100000 in
theorem awake_any (w : World) (hE : Env7 w) : Calls Tryz.prog 15 #[] w (Says (.bool true) w) := by
  obtain ⟨w2, hw2, hrows, hb2, hs2⟩ := aw_rows w
  have cP := plain_any (some ⟨w.heap.size + 1, 0, none⟩) [awRow] 1 (w.heap.size + 2) w2 (by omega) hrows (by decide) (by decide) (by decide)
  have CP := hid cP
  have HB2 := hid hb2
  clear cP hb2 hrows
  unfold Says
  go_enter Tryz.func15, Tryz.ntmps15
  go_wp2_with fail
  (try rw [← hw2])
  refine CP.out.mono ?_
  rintro e w3 ⟨⟨v, rfl, hrr⟩, hb3⟩
  obtain ⟨A3, c3, rfl, hl3, hc3, hrin⟩ := hrr.recsIn
  have hB3 : Below w.heap.size w w3 := HB2.out.trans (hb3.mono HB2.out.size)
  have HB3 := hid hB3
  have HRI := hid hrin
  clear hb3 hrr hrin hB3 HB2 CP hw2 hs2
  go_wp2_with fail
  refine (week_any w3).mono ?_
  unfold Says
  rintro e w4 ⟨rfl, hb4⟩
  have hB4 : Below w.heap.size w w4 := HB3.out.trans (hb4.mono HB3.out.size)
  have cR := readA_any 5 10 480 45 4 A3 (plainM [awRow]) c3 w4 ((HRI.out.kept (fun k hk => hb4.block k hk.2)).mono (fun k hk => Nat.lt_of_lt_of_le hk.2 hb4.size)) (by rw [plainM_len]; decide) awSize (hE.below hB4 (Nat.le_refl _))
  rw [awRead, plainM_len] at cR
  rw [plainM_len]
  unfold ReadOut at cR
  have CR := hid cR
  have HB4 := hid hB4
  clear cR hB4 hb4 hl3 hE HRI HB3
  go_wp2_with fail
  refine CR.out.mono ?_
  rintro e w5 ⟨v1, v2, rfl, hrm, hpr, hb5⟩
  obtain ⟨A4, c4, rfl, hl4, hc4, hin4⟩ := hrm.classesIn
  obtain ⟨b, off, q, rfl, hPb, hrq, hat⟩ := hin4.at_ (k := 0) (by decide)
  have hv2 : ∃ A5 c5, v2 = .slice A5 0 c5 := by
    rcases hpr.2 with ⟨hv, _⟩ | ⟨g, cap, cur, hv, _⟩
    · exact ⟨_, _, hv⟩
    · exact ⟨_, _, hv⟩
  obtain ⟨A5, c5, rfl⟩ := hv2
  simp only [List.getElem_cons_zero] at hrq hat
  have hbl : b < w5.heap.size := by rcases hPb with h | h <;> exact h.2
  have hB5 : Below w.heap.size w w5 := HB4.out.trans (hb5.mono HB4.out.size)
  have hro : ClassIn w5 (fun k => k < w5.heap.size) awClass q := hrq.mono (fun k hk => by rcases hk with h | h <;> exact h.2)
  obtain ⟨aP, cP, aF, cF, aS, cS, aT, cT⟩ := q
  obtain ⟨bT, oT, hAT, hTl, t0, t1⟩ := FlatIn.start (k := 0) hro.t (by decide)
  dsimp only at hAT
  subst hAT
  simp only [Nat.zero_mul, Nat.add_zero] at hat t1 hl4
  have hK : KW w b off bT oT ⟨aP, cP, aF, cF, aS, cS, some ⟨bT, oT, none⟩, cT⟩ w5 := ⟨hro, hat, hbl, t1, hTl, hB5⟩
  have cTT := fun (W : World) (h : KW w b off bT oT ⟨aP, cP, aF, cF, aS, cS, some ⟨bT, oT, none⟩, cT⟩ W) => times_any 5 10 480 45 awClass ⟨aP, cP, aF, cF, aS, cS, some ⟨bT, oT, none⟩, cT⟩ W h.i awTot
  unfold TimeRow at cTT
  rw [awTimes] at cTT
  have cNN : ∀ (W : World), KW w b off bT oT ⟨aP, cP, aF, cF, aS, cS, some ⟨bT, oT, none⟩, cT⟩ W → Calls Tryz.prog 11 #[.agg #[.string (ba [99, 49]), .string (ba [77, 65]), .string (ba [76]), .int .i64 2, .slice aP 2 cP, .int .i64 30, .slice aF 0 cF, .slice aS 1 cS, .slice (some ⟨bT, oT, none⟩) 2 cT], .agg #[.int .i64 5, .int .i64 10, .int .i64 480, .int .i64 45]] W fun e w' => (∃ A c, e = .returned (.slice A 4 c)) ∧ Below W.heap.size W w' := fun W h => (cTT W h).mono (by
    rintro e w' ⟨⟨v, rfl, hr⟩, hb⟩
    obtain ⟨A, c, rfl⟩ := row_slice hr
    exact ⟨⟨A, c, rfl⟩, hb⟩)
  have CN := hid cNN
  have hk' := hK
  have hten := hK.ten
  have HK := hid hK
  clear cTT cNN hK hat hro hrq hrm hpr hb5 hin4 hPb t0 t1 hB5 CR HB4 hbl hTl
  simp only [List.length_cons, List.length_nil, Nat.zero_add] at hl4 ⊢
  obtain ⟨x0, x1, x2, x3, x4, x5, x6, x7, x8, x9⟩ := hten
  go_upto_region 2 with fail
  go_region_held3 (fun w' => w'.cell? ⟨b, off, none⟩ = some (.string (ba [99, 49])) ∧ w'.cell? ⟨b, off + 1, none⟩ = some (.string (ba [77, 65])) ∧ w'.cell? ⟨b, off + 2, none⟩ = some (.string (ba [76])) ∧ w'.cell? ⟨b, off + 3, none⟩ = some (.int .i64 2) ∧ w'.cell? ⟨b, off + 4, none⟩ = some (.slice aP 2 cP) ∧ w'.cell? ⟨b, off + 5, none⟩ = some (.int .i64 30) ∧ w'.cell? ⟨b, off + 6, none⟩ = some (.slice aF 0 cF) ∧ w'.cell? ⟨b, off + 7, none⟩ = some (.slice aS 1 cS) ∧ w'.cell? ⟨b, off + 8, none⟩ = some (.slice (some ⟨bT, oT, none⟩) 2 cT) ∧ w'.cell? ⟨bT, oT + 1, none⟩ = some (.int .i64 2))
    (first | with_reducible exact hk'.ten | with_reducible exact (hk'.next (Below.refl _ _).drew).ten | exact (hk'.next (Below.refl _ _).drew).ten)
    (first
      | (go_at_call 45; (refine (week_any _).mono ?_); unfold Says; rintro e wq ⟨rfl, hbq⟩; have hk' := (hk'.next (Below.refl _ _).drew).next hbq)
      | (go_at_call 11; (refine (CN.out _ hk').mono ?_); rintro e wq ⟨⟨A6, c6, rfl⟩, hbq⟩; have hk' := hk'.next hbq))
  all_goals
    go_wp2
    go_ret
    exact ⟨rfl, hk'.b⟩
end Go.Proofs.YtigdcgklpapfbaaGreatDoor.S10

set_option linter.unusedVariables false
namespace Go.Proofs.YtigdcgklpapfbaaGreatDoor
open Go Go.Proofs Go.RowKit Go.Lib

def rollV (L : List Int) (k : Nat) (n : Int) : Int := match L[k]? with | some v => modI v n | none => 0
def rollK (L : List Int) (k : Nat) : Nat := if k < L.length then k + 1 else k
theorem rollV_range (L : List Int) (k : Nat) (n : Int) (h : 1 ≤ n) : 0 ≤ rollV L k n ∧ rollV L k n < n := by
  unfold rollV
  split
  · exact modI_range _ n h
  · omega

set_option maxHeartbeats 2000000 in
set_option maxRecDepth 100000 in
theorem next_at (g c k : Nat) (A : Option Addr) (L : List Int) (n : Int) (hn : n ≤ 4294967296) (w : World) (h : DiceAt w g A L c k) :
    Calls Tryz.prog 26 #[.pointer (some ⟨g, 0, none⟩), .int .i64 n] w fun e w' => e = .returned (.int .i64 (rollV L k n)) ∧ DiceAt w' g A L c (rollK L k) ∧ Rolled g w w' := by
  have h0 := h.list
  have h1 := h.at_
  have hle := h.le
  have hfew := h.few
  have H := hid h
  clear h
  by_cases hk : k < L.length
  · obtain ⟨v, hv⟩ : ∃ v, L[k]? = some v := ⟨_, List.getElem?_eq_getElem hk⟩
    have hr1 : rollV L k n = modI v n := by unfold rollV; rw [hv]
    have hr2 : rollK L k = k + 1 := if_pos hk
    rw [hr1, hr2]
    have HV := hid hv
    clear hr1 hr2 hv
    have hkz : ¬ (L.length : Int) ≤ (k : Int) := by omega
    have hkb : decide (L.length ≤ k) = false := decide_eq_false (by omega)
    go_enter Tryz.func26, Tryz.ntmps26
    go_wp2
    go_quiet (fail)
    have hD := H.out.drawn nq
    have hR := Rolled.drawn g w nq
    generalize w.drewN nq = w1 at hD hR ⊢
    clear h0 h1 H
    have h0 := hD.list
    have h1 := hD.at_
    have hf := hD.free 1
    have hD2 := hD.next hk
    have hR2 := hR.trans (Rolled.set g 1 w1 (.int .i64 ((k : Int) + 1)))
    have HD2 := hid hD2
    have HR2 := hid hR2
    clear hD hR hD2 hR2
    go_wp2
    have hD := HD2.out
    have hR := HR2.out
    clear HD2 HR2 h0 h1 hf
    generalize w1.setCell ⟨g, 1, none⟩ (.int .i64 ((k : Int) + 1)) = w2 at hD hR ⊢
    have h0 := hD.list
    have h1 := hD.at_
    rw [show (((k + 1 : Nat)) : Int) = (k : Int) + 1 by omega] at h1
    obtain ⟨b, off, rfl, hc⟩ : ∃ b off, A = some ⟨b, off, none⟩ ∧ w2.cell? ⟨b, off + k, none⟩ = some (.int .i64 v) := by
      rcases hD.ints with h' | ⟨b, off, hA, _, hc⟩
      · rw [h'] at hk; simp at hk
      · exact ⟨b, off, hA, hc k v HV.out⟩
    have HD := hid hD
    have HR := hid hR
    clear hD hR
    go_quiet ((go_at_call 34; with_reducible refine Calls.quiet_of_same ((mod_any v n hn _).mono fun _ _ h => ⟨h.1, h.2.symm⟩)))
    go_wp2
    go_ret
    exact ⟨rfl, HD.out.drawn nq, HR.out.trans (Rolled.drawn g w2 nq)⟩
  · have hr1 : rollV L k n = 0 := by
      unfold rollV
      rw [List.getElem?_eq_none (by omega)]
    have hr2 : rollK L k = k := if_neg hk
    rw [hr1, hr2]
    clear hr1 hr2
    have hkz : (L.length : Int) ≤ (k : Int) := by omega
    have hkb : decide (L.length ≤ k) = true := decide_eq_true (by omega)
    go_enter Tryz.func26, Tryz.ntmps26
    go_wp2
    go_quiet (fail)
    go_wp2
    go_ret
    exact ⟨rfl, H.out.drawn nq, Rolled.drawn g w nq⟩
end Go.Proofs.YtigdcgklpapfbaaGreatDoor

set_option linter.unusedVariables false
namespace Go.Proofs.YtigdcgklpapfbaaGreatDoor
open Go Go.Proofs Go.RowKit Go.Lib

/-- The dice lie there, and but for them all that was there is as it was. -/
structure DE (w0 : World) (g c : Nat) (A : Option Addr) (L : List Int) (k : Nat) (w : World) : Prop where
  d : DiceAt w g A L c k
  p : Played w0.heap.size g w0 w
section
variable {w0 w w' : World} {g c k k' : Nat} {A : Option Addr} {L : List Int}
theorem DE.first (h : DiceAt w g A L c k) : DE w g c A L k w := ⟨h, Played.refl _ _ _⟩
theorem DE.alloc (h : DE w0 g c A L k w) (o : Obj) : DE w0 g c A L k (w.alloc o) :=
  ⟨h.d.below (Below.alloc (Below.refl _ _) (Nat.le_refl _) o) h.d.lt, h.p.below (Below.alloc (Below.refl _ _) h.p.size o)⟩
theorem DE.drawn (h : DE w0 g c A L k w) (n : Nat) : DE w0 g c A L k (w.drewN n) :=
  ⟨h.d.drawn n, h.p.below (below_drawn (Below.refl _ _) n)⟩
theorem DE.set (h : DE w0 g c A L k w) (b o : Nat) (v : Value) (hb : w0.heap.size ≤ b) (hg : g < b) : DE w0 g c A L k (w.setCell ⟨b, o, none⟩ v) :=
  ⟨h.d.below (B := b) ((Below.refl b w).setCell (p := ⟨b, o, none⟩) (Nat.le_refl _) v) hg, h.p.below ((Below.refl _ w).setCell (p := ⟨b, o, none⟩) hb v)⟩
theorem DE.next (h : DE w0 g c A L k w) (hd : DiceAt w' g A L c k') (hr : Rolled g w w') : DE w0 g c A L k' w' := ⟨hd, h.p.rolled hr⟩
theorem DE.below (h : DE w0 g c A L k w) (hb : Below w0.heap.size w w') (hg : g < w0.heap.size) : DE w0 g c A L k w' := ⟨h.d.below hb hg, h.p.below hb⟩
end
theorem Rolled.cells {g : Nat} {w w' : World} (h : Rolled g w w') : ∀ b o, b ≠ g → w'.cell? ⟨b, o, none⟩ = w.cell? ⟨b, o, none⟩ := fun b o hb => World.cell?_of_block (w := w) (h.block b hb)
theorem Rolled.frozen {g : Nat} {w w' : World} (h : Rolled g w w') : ∀ b o, b ≠ g → w'.frozen? ⟨b, o, none⟩ = w.frozen? ⟨b, o, none⟩ := fun b o hb => World.frozen?_of_block (w := w) (h.block b hb)
theorem results_c {fn : Func} {p : Tmp} {A : TypeId} (h : fn.results = #[.cell p A]) (tmps : Array Value) (P : Program) (w : World) (a : Addr) (va : Value)
    (ha : tmps.getD p undef = .pointer (some a)) (hla : (loadVar A a).run P w = .ok va w) : (results fn tmps).run P w = .ok va w := by
  rw [Array.getD_eq_getD_getElem?] at ha
  simp only [results, h]
  simp [ha, hla, asAddr]
theorem cells_free {w : World} {b : Nat} {cs : Array Value} {t : TypeId} (h : w.heap[b]? = some (.cells cs t (0, 0))) (j : Nat) : w.frozen? ⟨b, j, none⟩ = false := by simp [World.frozen?, h]
theorem IntRow.rolled {B g : Nat} {a w : World} {v : Value} {l : List Int} (hr : IntRow a B v l) (h : Rolled g a w) (hg : g < B) : IntRow w B v l :=
  h.row hr (fun e => by have := World.ownsRow.lt hr g e; omega)
end Go.Proofs.YtigdcgklpapfbaaGreatDoor

