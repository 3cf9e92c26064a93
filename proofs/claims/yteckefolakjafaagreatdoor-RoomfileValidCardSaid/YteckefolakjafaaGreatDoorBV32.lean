/-
  The sanity check of the laws of roomfile: its mathematics. No program.
  The walk of Plain. Conditions: as in R7Q.
  What holds while a list of times is read part by part; the text of such a list. Conditions: as stated.
-/
import Derived.Test.YteckefolakjafaaGreatDoorBV31
import Derived.Test.YteckefolakjafaaGreatDoorBV11
import Derived.Test.YteckefolakjafaaGreatDoorBV18
import Derived.Test.YteckefolakjafaaGreatDoorBV10
import Derived.RangeFuncBox
set_option linter.unusedVariables false
namespace Go.Proofs.YteckefolakjafaaGreatDoor
open Go Go.Proofs Go.RowKit Go.Lib

def awRow : List Str := [[82, 49], [66], [51, 48], [108, 97, 98, 59, 98, 101, 97, 109, 101, 114], [77, 111, 32, 49, 45, 50]]
theorem aw0 : frameB 5 8 480 45 4 = true := by kernel_rfl
theorem aw1 : S3.validC [82, 49] = true := by kernel_rfl
theorem aw2 : S3.validC [66] = true := by kernel_rfl
theorem aw3 : seatsM [51, 48] = (30, 0) := by kernel_rfl
theorem aw4 : S3.listM [108, 97, 98, 59, 98, 101, 97, 109, 101, 114] = ([[108, 97, 98], [98, 101, 97, 109, 101, 114]], 0) := by kernel_rfl
theorem aw5 : timesM 5 8 480 45 4 [77, 111, 32, 49, 45, 50] = ([(15, 0, 0, 2)], 0) := by kernel_rfl
theorem aw6 : sortS [[108, 97, 98], [98, 101, 97, 109, 101, 114]] = [[98, 101, 97, 109, 101, 114], [108, 97, 98]] := by
  have h : decide (([108, 97, 98] : Str) ≤ [98, 101, 97, 109, 101, 114]) = false := by decide
  unfold sortS
  simp [List.mergeSort, List.MergeSort.Internal.splitInTwo, List.merge, h]
theorem aw7 : featsM [108, 97, 98, 59, 98, 101, 97, 109, 101, 114] = ([[98, 101, 97, 109, 101, 114], [108, 97, 98]], 0) := by
  unfold featsM
  rw [aw4, aw6]
  rfl
theorem aw8 : entryM 5 8 480 45 4 (colsM 1 awRow) = (([82, 49], [66], 30, [[98, 101, 97, 109, 101, 114], [108, 97, 98]], [(15, 0, 0, 2)]), 0, 0) := by
  unfold entryM awRow
  simp [colsM, efold, setF, zeroR, aw1, aw2, aw3, aw5, aw7]
theorem awRead : readM 5 8 480 45 4 (plainM [awRow]) = ([([82, 49], [66], 30, [[98, 101, 97, 109, 101, 114], [108, 97, 98]], [(15, 0, 0, 2)])], []) := by
  have h : plainM [awRow] = [(1, colsM 1 awRow)] := rfl
  unfold readM
  rw [if_pos aw0, h]
  simp [recsM, recM, aw8, addC, codesR]
theorem awOpen : openM ([82, 49], [66], 30, [[98, 101, 97, 109, 101, 114], [108, 97, 98]], [(15, 0, 0, 2)]) (15, 0, 0, 2) = false := by kernel_rfl
theorem awSize : ∀ x ∈ plainM [awRow], ∀ f ∈ x.2, f.1.length < 4294967281 := by
  have h : plainM [awRow] = [(1, colsM 1 awRow)] := rfl
  rw [h]
  simp [colsM, awRow]
  rintro a n (⟨rfl, _⟩ | ⟨rfl, _⟩ | ⟨rfl, _⟩ | ⟨rfl, _⟩ | ⟨rfl, _⟩) <;> decide
end Go.Proofs.YteckefolakjafaaGreatDoor

set_option linter.unusedVariables false
namespace Go.Proofs.YteckefolakjafaaGreatDoor
open Go Go.Proofs Go.RowKit Go.Lib

/-- What holds while the fields of one record are laid down: the record's box X, whose list owns a row from X + 1 on; below X nothing has turned since wz. -/
structure PIn (X : Nat) (line : Int) (wz w : World) (l : List FieldD) : Prop where
  x : ∃ A c, w.heap[X]? = some (.cells #[.int .i64 line, .slice A l.length c] 36 (0, 0)) ∧ FieldRow w (X + 1) (.slice A l.length c) l
  b : Below X wz w

theorem PIn.snoc {X g7 cap7 k cx : Nat} {line : Int} {wz wr w7 : World} {L0 : List FieldD} {f : FieldD} {Ax : Option Addr} (hb : Below X wz wr) (hxr : wr.ownsRow (X + 1) 81 3 (.slice Ax k cx) k (fieldVals L0)) (hg : wr.grownBy w7 (Value.slice Ax k cx).ownBlock)
    (hx7 : w7.heap[X]? = some (.cells #[.int .i64 line, .slice Ax k cx] 36 (0, 0))) (hown : w7.ownsRow (X + 1) 81 3 (.slice (some ⟨g7, 0, none⟩) (k + 1) cap7) (k + 1) (fieldVals L0 ++ fieldVs f)) (hl : L0.length = k) (hXs : X < wr.heap.size) :
    PIn X line wz (w7.setCell ⟨X, 1, none⟩ (.slice (some ⟨g7, 0, none⟩) (k + 1) cap7)) (L0 ++ [f]) := by
  have hs := hg.size
  have hg2 : w7.grownBy (w7.setCell ⟨X, 1, none⟩ (.slice (some ⟨g7, 0, none⟩) (k + 1) cap7)) (some X) := ⟨by simp [World.setCell], by simp [World.setCell], by simp [World.setCell], by simp [World.setCell], fun j _ hj => Below.heap_setCell w7 ⟨X, 1, none⟩ _ j (fun e => hj (by rw [show j = X from e]))⟩
  have hn : (L0 ++ [f]).length = k + 1 := by simp [hl]
  refine ⟨⟨some ⟨g7, 0, none⟩, cap7, ?_, ?_⟩, ?_⟩
  · rw [hn, heap_setCell_same w7 X 1 _ _ _ hx7]; rfl
  · unfold FieldRow
    rw [hn, fieldVals_app]
    refine World.ownsRow.kept ?_ hg2 (.inr fun e => ?_)
    · simpa [fieldVals] using hown
    · have := (World.ownsRow.lt hown _ e).1
      omega
  · exact (hb.grown hg (by omega) (fun j e => by have := (World.ownsRow.lt hxr j e).1; omega)).grown hg2 (by omega) (fun j e => by injection e; omega)
theorem RecRow.snoc {wz wr w9 : World} {B X n : Nat} {v v' : Value} {l : List RecD} {x : RecD} {Ax : Option Addr} {cx : Nat} {L : List RecA} (hL : L.map (·.1) = l) (ho : wz.ownsRow B 36 2 v n (recVals L))
    (hr : ∀ p ∈ L, FieldsIn wz (fun b => B ≤ b ∧ b < wz.heap.size ∧ v.ownBlock ≠ some b) p.2.1 p.1.2 ∧ p.1.2.length ≤ p.2.2 ∧ p.2.2 ≤ 9223372036854775807) (hn : L.length = n) (hX : wz.heap.size = X) (hBX : B ≤ X) (hb : Below X wz wr)
    (hf : FieldRow wr (X + 1) (.slice Ax x.2.length cx) x.2) (hg : wr.grownBy w9 v.ownBlock) (hat : v'.ownBlock = v.ownBlock ∨ ∃ j, v'.ownBlock = some j ∧ wr.heap.size ≤ j)
    (hown : w9.ownsRow B 36 2 v' (n + 1) (recVals L ++ recVs (x, (Ax, cx)))) : RecRow w9 B v' (l ++ [x]) := by
  have hs := hg.size
  have hbs := hb.size
  have hvl : ∀ g, v.ownBlock = some g → B ≤ g ∧ g < X := fun g e => hX ▸ World.ownsRow.lt ho g e
  have hne : ∀ b, b < wr.heap.size → v.ownBlock ≠ some b → v'.ownBlock ≠ some b := by
    intro b hb hne
    rcases hat with e | ⟨j, e, hj⟩
    · rw [e]; exact hne
    · rw [e]; intro e0; injection e0 with e0; omega
  refine ⟨L ++ [(x, (Ax, cx))], by rw [List.map_append, hL]; rfl, ?_, fun p hp => ?_⟩
  · rw [List.length_append, List.length_singleton, hn, recVals_app]
    simpa [recVals] using hown
  · rcases List.mem_append.1 hp with hp | hp
    · obtain ⟨f1, f2, f3⟩ := hr p hp
      refine ⟨(f1.kept (w' := w9) (fun b hb' => ?_)).mono (fun b hb' => ⟨hb'.1, by omega, hne b (by omega) hb'.2.2⟩), f2, f3⟩
      rw [hg.block b (by omega) (fun e => hb'.2.2 e.symm), hb.block b (by omega)]
    · rw [List.mem_singleton] at hp
      subst hp
      obtain ⟨A5, c5, eA, hl5, hc5, hI5⟩ := hf.fieldsIn
      obtain ⟨rfl, rfl⟩ : Ax = A5 ∧ cx = c5 := by injection eA with e1 _ e3; exact ⟨e1, e3⟩
      have hown5 : ∀ b, (Value.slice Ax x.2.length cx).ownBlock = some b → X + 1 ≤ b ∧ b < wr.heap.size := fun b e => World.ownsRow.lt hf b e
      have hnv : ∀ b, (Value.slice Ax x.2.length cx).ownBlock = some b → v.ownBlock ≠ some b := fun b e e2 => by have := hown5 b e; have := hvl b e2; omega
      refine ⟨(hI5.kept (w' := w9) (fun b hb' => hg.block b (hown5 b hb').2 (fun e => hnv b hb' e.symm))).mono (fun b hb' => ⟨by have := hown5 b hb'; omega, by have := hown5 b hb'; omega, hne b (hown5 b hb').2 (hnv b hb')⟩), hl5, hc5⟩
set_option maxHeartbeats 8000000 in
set_option maxRecDepth 100000 in
theorem plain_any (A : Option Addr) (rows : List (List Str)) (c B : Nat) (w : World) (hB : B ≤ w.heap.size) (h : RowsIn w (fun b => b < B) A rows) (hr : rows.length ≤ 1000000) (hf : ∀ r ∈ rows, r.length ≤ 1000000) (hs : ∀ r ∈ rows, ∀ s ∈ r, s.length ≤ 1000000) :
    Calls Tryz.prog 19 #[.slice A rows.length c] w fun e w' => (∃ v, e = .returned v ∧ RecRow w' w.heap.size v (plainM rows)) ∧ Below w.heap.size w w' := by
  obtain ⟨iF, hiF, hzF, hsF, hbF⟩ := info_parts infoField
  obtain ⟨iR, hiR, hzR, hsR, hbR⟩ := info_parts infoRec
  have HH := hid h
  have HF := hid hf
  have HS := hid hs
  clear h hf hs
  go_enter Tryz.func19, Tryz.ntmps19
  go_wp2
  go_loopw [3, 4, 5, 6, 7] (fun v iv _ _ _ wr => ∃ (i : Nat) (Ao : Option Addr) (no co : Nat), v = .slice Ao no co ∧ iv = .int .i64 (i : Int) ∧ i ≤ rows.length ∧ Hid (RecRow wr w.heap.size (.slice Ao no co) (plainM (rows.take i))) ∧ Hid (Below w.heap.size w wr)) (fun _ iv _ _ _ _ => rows.length - (RowKit.intOf iv).toNat)
  case atStart => exact ⟨0, _, _, _, rfl, rfl, Nat.zero_le _, hid ⟨[], rfl, World.ownsRow_nil _ _ _ _, fun p hp => by simp at hp⟩, hid (Below.refl _ _)⟩
  case round =>
    obtain ⟨i, Ao, no, co, rfl, rfl, hi, hO, hBw⟩ := hrel
    by_cases hlt : i < rows.length
    · have hltz : (i : Int) < (rows.length : Int) := by omega
      have q1 : IntKind.i64.wrap ((i : Int) + 1) = (i : Int) + 1 := IntWalk.i64_in _ (by omega)
      obtain ⟨b1, o1, A1, c1, rfl, hb1, g1, e1, e2, s1⟩ := ((HH.out.mono (fun b hb => Nat.lt_of_lt_of_le hb hB)).below hBw.out).at_ hlt
      have hfl := HF.out _ (List.getElem_mem hlt)
      have hsl := HS.out _ (List.getElem_mem hlt)
      have hst := plainM_take rows i hlt
      obtain ⟨row, hrow⟩ : ∃ r, rows[i] = r := ⟨_, rfl⟩
      rw [hrow] at g1 e1 s1 hfl hsl hst
      have HST := hid hst
      have HSL := hid hsl
      have S1 := hid s1
      have hX0 := heap_alloc_new wr (.cells #[.int .i64 ((i : Int) + 1), .slice none 0 0] 36)
      have hB0 := (Below.refl wr.heap.size wr).alloc (Nat.le_refl _) (.cells #[.int .i64 ((i : Int) + 1), .slice none 0 0] 36)
      have hs0 : (wr.alloc (.cells #[.int .i64 ((i : Int) + 1), .slice none 0 0] 36)).heap.size = wr.heap.size + 1 := by simp
      have HX0 := hid hX0
      have HB0 := hid hB0
      have HS0 := hid hs0
      clear hst hsl s1 hrow hX0 hB0 hs0
      go_wp2_with fail
      generalize wr.alloc (.cells #[.int .i64 ((i : Int) + 1), .slice none 0 0] 36) = wx at HX0 HB0 HS0 ⊢
      have hk0 : PIn wr.heap.size ((i : Int) + 1) wr wx [] := ⟨⟨none, 0, HX0.out, World.ownsRow_nil _ _ _ _⟩, HB0.out⟩
      have hwz := hBw.out.size
      have HK0 := hid hk0
      clear hk0 HX0 HB0 HS0
      generalize hz : wr = wz at *
      obtain ⟨X, hX⟩ : ∃ X, wz.heap.size = X := ⟨_, rfl⟩
      have hbX : b1 < X := by omega
      have HBW := hid hBw.out
      have HO := hid hO.out
      rw [hX] at HK0 hwz ⊢
      clear hz hO hBw
      go_loopw [6, 7] (fun cv kv wr2 => ∃ (k : Nat) (cl : Int), cv = .int .i64 cl ∧ kv = .int .i64 (k : Int) ∧ k ≤ row.length ∧ Hid (cl = colAt 1 (row.take k)) ∧ Hid (PIn X ((i : Int) + 1) wz wr2 (colsM 1 (row.take k)))) (fun _ kv _ => row.length - (RowKit.intOf kv).toNat)
      case atStart => exact ⟨0, 1, rfl, rfl, Nat.zero_le _, hid rfl, hid HK0.out⟩
      case round =>
        obtain ⟨k, cl, rfl, rfl, hk, hcl, hP⟩ := hrel
        obtain ⟨⟨Ax, cx, hxb, hxr⟩, hPb⟩ := hP.out
        have kc : ∀ b o : Nat, b < w.heap.size → wr.cell? ⟨b, o, none⟩ = wz.cell? ⟨b, o, none⟩ := fun b o hb => hPb.cell (p := ⟨b, o, none⟩) (by show b < X; omega)
        have g2 : wr.cell? ⟨b1, o1 + i, none⟩ = some (.slice A1 row.length c1) := by rw [kc b1 _ hb1]; exact g1
        have cx0 : wr.cell? ⟨X, 0, none⟩ = some (.int .i64 ((i : Int) + 1)) := by rw [Lib.cell_of_heap hxb]; rfl
        have cx1 : wr.cell? ⟨X, 1, none⟩ = some (.slice Ax (colsM 1 (row.take k)).length cx) := by rw [Lib.cell_of_heap hxb]; rfl
        have fx1 : wr.frozen? ⟨X, 1, none⟩ = false := by simp [World.frozen?, hxb]
        by_cases hlk : k < row.length
        · have hlkz : (k : Int) < (row.length : Int) := by omega
          obtain ⟨b2, o2, rfl, hb2, g3⟩ := S1.out.at_ hlk
          have hXs : X < wr.heap.size := (Array.getElem?_eq_some_iff.1 hxb).1
          have hb1s : b1 < wr.heap.size := by omega
          have hb2s : b2 < wr.heap.size := by omega
          have g3' : wr.cell? ⟨b2, o2 + k, none⟩ = some (.string (ba row[k])) := by rw [kc b2 _ hb2]; exact g3
          obtain ⟨str, hstr⟩ : ∃ t, row[k] = t := ⟨_, rfl⟩
          rw [hstr] at g3'
          have hnk : (colsM 1 (row.take k)).length = k := by rw [colsM_len, List.length_take]; omega
          have hslen := HSL.out str (by rw [← hstr]; exact List.getElem_mem hlk)
          have hcols : colsM 1 (row.take (k + 1)) = colsM 1 (row.take k) ++ [(str, cl, false)] := by rw [List.take_succ_eq_append_getElem hlk, colsM_app, hstr, hcl.out]; rfl
          have hcl2 : colAt 1 (row.take (k + 1)) = cl + ((str.length : Int) + 1) := by rw [List.take_succ_eq_append_getElem hlk, colAt_snoc, hstr, hcl.out]
          have hclr := colAt_range 1 (row.take k) (fun s hs => HSL.out s (List.mem_of_mem_take hs))
          rw [← hcl.out, List.length_take] at hclr
          unfold FieldRow at hxr
          rw [hnk] at hxr cx1 hxb
          have HXB := hid hxb
          obtain ⟨L0, hL0⟩ : ∃ L0, colsM 1 (row.take k) = L0 := ⟨_, rfl⟩
          rw [hL0] at hxr hcols
          have HXR := hid hxr
          have HM : Hid (k + 1 ≤ maxLen) := hid (by unfold maxLen; omega)
          have HM2 : Hid ((k + 1) * 32 ≤ 140737488355328) := hid (by omega)
          have HCO := hid hcols
          have HC2 := hid hcl2
          have hwq : IntKind.i64.wrap ((k : Int) + 1) = (k : Int) + 1 := IntWalk.i64_in _ (by omega)
          have hsz : (ba str).size = str.length := Lib.size_eq _
          have HL0 : Hid (L0.length = k) := hid (by rw [← hL0]; exact hnk)
          have HPB := hid hPb
          have G3 : Hid (wz.cell? ⟨b2, o2 + k, none⟩ = some (.string (ba str))) := hid (by rw [← hstr]; exact g3)
          clear hxr hcols hcl2 kc g3 hnk hL0
          obtain ⟨z, hzs⟩ : ∃ z, ba str = z := ⟨_, rfl⟩
          rw [hzs] at g3' hsz G3
          have HZS := hid hzs
          clear hzs
          have HFN : Hid (∀ (w : World) (j : Nat) (u : Value), (fieldVs (str, cl, false))[j]? = some u → (w.alloc (.cells #[.string z, .int .i64 cl, .bool false] 81)).cell? ((⟨w.heap.size, 0, none⟩ : Addr).add j) = some u) := hid (fun w j u h => by
            have e := heap_alloc_new w (.cells #[.string z, .int .i64 cl, .bool false] 81)
            rw [Addr.add_lit, Lib.cell_of_heap e]
            match j, h with
            | 0, h => rw [← HZS.out]; exact h
            | 1, h => exact h
            | 2, h => exact h
            | j + 3, h => simp [fieldVs] at h)
          have HF1 : Hid (∀ u ∈ fieldVs (str, cl, false), u.oneCell' = true) := hid (fun u hu => by
            simp [fieldVs] at hu
            rcases hu with rfl | rfl | rfl <;> rfl)
          go_wp2_with fail
          go_region_law (
            (refine step_append_lies _ ?_ (.tmp 27) (.tmp 37) 34 ?_ (X + 1) 81 iF (.agg #[.string ⟨#[]⟩, .int .i64 0, .bool false]) 3 32 Tryz.underlying34 hiF hzF hsF hbF ?_ ?_ (.slice Ax k cx) k (fieldVals L0) ?_ ?_ ⟨wr.heap.size, 0, none⟩ 1 1 (fieldVs (str, cl, false)) ?_ ?_ ?_ ?_ (by decide) HM.out HM2.out ?_ (wr.heap.size + 1) ?_ ?_
             · rfl
             · rfl
             · rfl
             · decide
             · simp [Act.eval]
             · exact row_drawn (World.ownsRow.alloc HXR.out _) 1
             · simp [Act.eval]
             · rfl
             · exact HFN.out wr
             · exact HF1.out
             · simp; omega
             · simp
             intro g7 cap7 w7 hown7 hgrow7 hat7 hlt7
             have HOW := hid hown7
             have HGR := hid hgrow7
             have HAT := hid hat7
             have hgw : wr.grownBy w7 (Value.slice Ax k cx).ownBlock := ⟨hgrow7.os, hgrow7.tape, hgrow7.output, by have := hgrow7.size; simp at this; omega, fun j hj hr => (hgrow7.block j (by simp; omega) hr).trans (Below.heap_alloc wr _ j hj)⟩
             have hx7 : w7.heap[X]? = some (.cells #[.int .i64 ((i : Int) + 1), .slice Ax k cx] 36 (0, 0)) := (hgrow7.block X (by simp; omega) (fun e => by have := (World.ownsRow.lt HXR.out X e.symm).1; omega)).trans ((Below.heap_alloc wr _ X hXs).trans HXB.out)
             have c71 : w7.cell? ⟨X, 1, none⟩ = some (.slice Ax k cx) := by rw [Lib.cell_of_heap hx7]; rfl
             have f71 : w7.frozen? ⟨X, 1, none⟩ = false := by simp [World.frozen?, hx7]
             have HX7 := hid hx7
             have hP8 := PIn.snoc HPB.out HXR.out hgw hx7 hown7 HL0.out hXs
             have HP8 := hid hP8
             clear hown7 hgrow7 hat7 hx7 hgw hP8 HGR HOW HAT HX7))
          all_goals
            obtain ⟨w8, h8⟩ : ∃ w8, w7.setCell ⟨X, 1, none⟩ (.slice (some ⟨g7, 0, none⟩) (k + 1) cap7) = w8 := ⟨_, rfl⟩
            rw [h8] at HP8 ⊢
            clear h8
            have kc8 : ∀ b o : Nat, b < w.heap.size → w8.cell? ⟨b, o, none⟩ = wz.cell? ⟨b, o, none⟩ := fun b o hb => HP8.out.b.cell (p := ⟨b, o, none⟩) (by show b < X; omega)
            have g28 : w8.cell? ⟨b1, o1 + i, none⟩ = some (.slice (some ⟨b2, o2, none⟩) row.length c1) := by rw [kc8 b1 _ hb1]; exact g1
            have g38 : w8.cell? ⟨b2, o2 + k, none⟩ = some (.string z) := by rw [kc8 b2 _ hb2]; exact G3.out
            have hq1 : IntKind.i64.wrap ((z.size : Int) + 1) = (z.size : Int) + 1 := IntWalk.i64_in _ (by omega)
            have hq2 : IntKind.i64.wrap (cl + ((z.size : Int) + 1)) = cl + ((z.size : Int) + 1) := IntWalk.i64_in _ (by omega)
            clear kc8
            go_wp2
            refine ⟨⟨k + 1, _, rfl, by go_num, by omega, hid HC2.out.symm, hid ?_⟩, by simp [RowKit.intOf]; omega⟩
            rw [HCO.out]
            exact HP8.out
        · have hkr : k = row.length := by omega
          subst hkr
          rw [List.take_of_length_le (Nat.le_refl _)] at hcl hxr hxb cx1
          rw [colsM_len] at cx1 hxb hxr
          have hlkz : ¬ ((row.length : Int) < (row.length : Int)) := by omega
          have hXs : X < wr.heap.size := (Array.getElem?_eq_some_iff.1 hxb).1
          have hb1s : b1 < wr.heap.size := by omega
          obtain ⟨L, hL, ho, hr⟩ := HO.out
          have hLl : L.length = i := by
            have := congrArg List.length hL
            rw [List.length_map, plainM_len, List.length_take] at this
            omega
          have hno : no = i := by
            rcases ho.2 with ⟨hv, h0⟩ | ⟨g, cap, cur, hv, _⟩
            · injection hv with _ h1 _; omega
            · injection hv with _ h1 _; omega
          subst hno
          rw [hLl] at ho
          have ho2 : wr.ownsRow w.heap.size 36 2 (.slice Ao no co) no (recVals L) := row_under ho (by rw [hX]; exact hPb)
          have HO2 := hid ho2
          have HL := hid hL
          have HLl := hid hLl
          have HRR := hid hr
          have HOZ := hid ho
          have HM : Hid (no + 1 ≤ maxLen) := hid (by unfold maxLen; omega)
          have HM2 : Hid ((no + 1) * 32 ≤ 140737488355328) := hid (by omega)
          have HXR := hid hxr
          have HPB := hid hPb
          have HSZ : Hid (∀ o : Obj, w.heap.size ≤ (wr.alloc o).heap.size) := hid (fun o => by simp; omega)
          have HNW : Hid (∀ (j : Nat) (u : Value), ([Value.int .i64 ((no : Int) + 1), .slice Ax row.length cx] : List Value)[j]? = some u → (wr.alloc (.cells #[.int .i64 ((no : Int) + 1), .slice Ax row.length cx] 36)).cell? ((⟨wr.heap.size, 0, none⟩ : Addr).add j) = some u) := hid (fun j u h => by
            have e := heap_alloc_new wr (.cells #[.int .i64 ((no : Int) + 1), .slice Ax row.length cx] 36)
            rw [Addr.add_lit, Lib.cell_of_heap e]
            match j, h with
            | 0, h => exact h
            | 1, h => exact h
            | j + 2, h => simp at h)
          have HN1 : Hid (∀ u ∈ ([Value.int .i64 ((no : Int) + 1), .slice Ax row.length cx] : List Value), u.oneCell' = true) := hid (fun u hu => by
            simp at hu
            rcases hu with rfl | rfl <;> rfl)
          clear ho2 hL hr ho hxr hPb hLl kc
          go_wp2_with (at_builtin; refine wpList_append_own_at _ rfl _ _ 33 rfl w.heap.size 36 iR (.agg #[.int .i64 0, .slice none 0 0]) 2 32 Tryz.underlying33 hiR hzR hsR hbR rfl (by decide) _ no (recVals L) rfl (World.ownsRow.alloc HO2.out _) ⟨wr.heap.size, 0, none⟩ 1 1 [.int .i64 ((no : Int) + 1), .slice Ax row.length cx] rfl rfl HNW.out HN1.out HM.out HM2.out (HSZ.out _) ?_)
          intro v' w9 hown9 hgrow9 hnil9 hat9
          obtain ⟨g', cap', rfl⟩ := ownsRow_succ (k := no) hown9
          have hg9 := grownBy_of_alloc hgrow9
          have hrv : recVs ((((no : Int) + 1, colsM 1 row), (Ax, cx)) : RecA) = [.int .i64 ((no : Int) + 1), .slice Ax row.length cx] := by simp [recVs, colsM_len]
          have hsn := RecRow.snoc (x := ((no : Int) + 1, colsM 1 row)) HL.out HOZ.out HRR.out HLl.out hX (by omega) HPB.out (by have h := HXR.out; rw [← colsM_len 1 row] at h; exact h) hg9 (hat9.imp id (fun h => ⟨_, h, by simp⟩)) (by rw [hrv]; exact hown9)
          rw [← HST.out] at hsn
          have hb9 : Below w.heap.size w w9 := (HBW.out.trans (HPB.out.mono (by omega))).grown hg9 (by omega) (fun j e => by have := (World.ownsRow.lt HO2.out j e).1; omega)
          have HSN := hid hsn
          have HB9 := hid hb9
          clear hsn hb9 hg9 hown9 hgrow9 hnil9 hat9 hrv
          go_wp2
          exact ⟨⟨no + 1, _, _, _, rfl, by go_num, by omega, HSN, HB9⟩, by simp [RowKit.intOf]; omega⟩
    · have hltz : ¬ (i : Int) < (rows.length : Int) := by omega
      have HO2 : Hid (RecRow wr w.heap.size (.slice Ao no co) (plainM rows)) := hid (by have := hO.out; rwa [List.take_of_length_le (by omega)] at this)
      go_wp2
      go_ret
      exact ⟨⟨_, rfl, HO2.out⟩, hBw.out⟩
end Go.Proofs.YteckefolakjafaaGreatDoor

set_option linter.unusedVariables false
namespace Go.Proofs.YteckefolakjafaaGreatDoor
open Go Go.Proofs Go.RowKit Go.Lib

theorem splitL_len : ∀ l : Str, (S3.splitL l).length ≤ l.length + 1
  | [] => by simp [S3.splitL]
  | c :: r => by
    have ih := splitL_len r
    unfold S3.splitL
    split
    · simp; omega
    · simp
      omega
theorem readT_start (d s : Int) (n : Nat) (x : Str) (k : Nat) : (readT d s n x k).1.2.2.1 ≤ 9223372036854775807 := by
  have h : fromN (wSlots x) < 100 := smallN_lt _
  unfold readT
  split
  · split
    · show (fromN (wSlots x) : Int) - 1 ≤ _
      omega
    · show (0 : Int) ≤ _
      omega
  · show (0 : Int) ≤ _
    omega
theorem timeM_start (d s b m n : Int) (x : Str) : (timeM d s b m n x).1.2.2.1 ≤ 9223372036854775807 := by
  have z : (0 : Int) ≤ 9223372036854775807 := by omega
  unfold timeM
  split
  · unfold bodyT
    split
    · split
      · exact readT_start _ _ _ _ _
      · exact z
    · exact z
  · exact z
/-- Between two rounds. -/
structure TInv (N : Nat) (w : World) (d s b m n : Int) (st : S3.St) (W : World) : Prop where
  below : Below N w W
  size : N + 8 ≤ W.heap.size
  g : W.heap[N]? = some (.cells #[.int .i64 d, .int .i64 s, .int .i64 b, .int .i64 m] 24 (0, 0))
  n1 : Boxed W (N + 1) 3 (.int .i64 n)
  r1 : Boxed W (N + 2) 44 (.slice none 0 0)
  r2 : Boxed W (N + 3) 26 (.int .i64 0)
  acc : ∃ v, Boxed W (N + 4) 44 v ∧ TimeRow W (N + 8) v (tgo d s b m n st.1 []).1
  v1 : Boxed W (N + 5) 9 (.string st.2)
  v2 : Boxed W (N + 6) 9 (.string ⟨#[59]⟩)
  v3 : Boxed W (N + 7) 3 (.int .i64 0)
  ok : (tgo d s b m n st.1 []).2 = 0
/-- A round has returned. -/
structure TErr (N : Nat) (w : World) (d s b m n : Int) (x : Str) (W : World) : Prop where
  below : Below N w W
  out : ∃ e : Int, (tgo d s b m n (S3.splitL x) []).2 = e ∧ e ≠ 0 ∧ Boxed W (N + 2) 44 (.slice none 0 0) ∧ Boxed W (N + 3) 26 (.int .i64 e)
section
variable {N : Nat} {w : World} {d s b m n : Int}
theorem TInv.kept {st : S3.St} {W W' : World} {row : Option Nat} (h : TInv N w d s b m n st W) (hN : N ≤ w.heap.size) (hg : W.grownBy W' row) (hr : ∀ r, row = some r → N + 8 ≤ r) (hrow : ∀ v, Boxed W (N + 4) 44 v → TimeRow W (N + 8) v (tgo d s b m n st.1 []).1 → v.ownBlock = none ∨ v.ownBlock ≠ row) : TInv N w d s b m n st W' := by
  have hne : ∀ B, B < N + 8 → some B ≠ row := fun B hB e => by have := hr B e.symm; omega
  obtain ⟨v, hv, hw⟩ := h.acc
  have hs := h.below.size
  have hz := h.size
  exact ⟨h.below.grown hg (by omega) (fun k e => by have := hr k e; omega), Nat.le_trans h.size hg.size, (hg.block N (by omega) (hne _ (by omega))).trans h.g, h.n1.kept hg (hne _ (by omega)), h.r1.kept hg (hne _ (by omega)), h.r2.kept hg (hne _ (by omega)),
    ⟨v, hv.kept hg (hne _ (by omega)), World.ownsRow.kept hw hg (hrow v hv hw)⟩, h.v1.kept hg (hne _ (by omega)), h.v2.kept hg (hne _ (by omega)), h.v3.kept hg (hne _ (by omega)), h.ok⟩
theorem TInv.own {B : Nat} (hN : N ≤ w.heap.size) (hB : N + 8 ≤ B) : OwnFrom B (TInv N w d s b m n) := by
  intro st W W' row h hg hr
  refine h.kept hN hg (fun r e => by have := (hr r e).1; omega) (fun v hv hw => ?_)
  rcases hw.2 with ⟨rfl, _⟩ | ⟨g, cap, cur, rfl, _, hgb, _⟩
  · exact .inl rfl
  · refine .inr fun e' => ?_
    obtain ⟨_, o, ho, hc⟩ := hr g (by simpa [Value.ownBlock] using e'.symm)
    rw [hgb] at ho; cases ho; cases hc
theorem TErr.own {B : Nat} {x : Str} (hN : N ≤ w.heap.size) (hB : N + 8 ≤ B) : OwnFrom B (fun (_ : Unit) W => TErr N w d s b m n x W) := by
  rintro _ W W' row ⟨hb, e, he, h0, h1, h2⟩ hg hr
  have hne : ∀ B, B < N + 8 → some B ≠ row := fun B' hB' e => by have := (hr B' e.symm).1; omega
  have hs := hb.size
  exact ⟨hb.grown hg (by omega) (fun k e => by have := (hr k e).1; omega), e, he, h0, h1.kept hg (hne _ (by omega)), h2.kept hg (hne _ (by omega))⟩
theorem TInv.turn {st : S3.St} {W : World} (h : TInv N w d s b m n st W) (hN : N ≤ w.heap.size) (r : ByteArray) : TInv N w d s b m n (st.1, r) (W.setCell ⟨N + 5, 0, none⟩ (.string r)) := by
  have hg := grownBy_setCell' W (N + 5) (.string r)
  have hne : ∀ B, B ≠ N + 5 → some B ≠ some (N + 5) := fun B hB e => hB (by injection e)
  obtain ⟨v, hv, hw⟩ := h.acc
  have hs := h.below.size
  have hz := h.size
  refine ⟨h.below.grown hg (by omega) (fun k e => by injection e; omega), Nat.le_trans h.size hg.size, (hg.block N (by omega) (hne _ (by omega))).trans h.g, h.n1.kept hg (hne _ (by omega)), h.r1.kept hg (hne _ (by omega)), h.r2.kept hg (hne _ (by omega)),
    ⟨v, hv.kept hg (hne _ (by omega)), World.ownsRow.kept hw hg ?_⟩, h.v1.set _, h.v2.kept hg (hne _ (by omega)), h.v3.kept hg (hne _ (by omega)), h.ok⟩
  refine .inr fun e => ?_
  have := World.ownsRow.lt hw _ e
  omega
theorem TInv.vars {st : S3.St} {W : World} (h : TInv N w d s b m n st W) : S3.SplitVars (N + 5) st.2 W := ⟨h.v1.cell, h.v1.frozen, h.v2.cell, h.v3.cell⟩
theorem row_kindT {w : World} {B e z k : Nat} {v : Value} {xs : List Value} (h : w.ownsRow B e z v k xs) (g : Nat) (hg : v.ownBlock = some g) : ∃ c, w.heap[g]? = some (.cells c e (0, 0)) := by
  rcases h.2 with ⟨rfl, _⟩ | ⟨g', cap, cur, rfl, _, hh, _⟩
  · simp [Value.ownBlock] at hg
  · simp only [Value.ownBlock, Option.some.injEq] at hg
    subst hg
    exact ⟨cur, hh⟩
/-- A round has gone on. -/
theorem TInv.step {pre : List Str} {r : ByteArray} {W W2 w3 : World} {v v' : Value} {L L' : List TimeD} {x : Str} (h : TInv N w d s b m n (pre, r) W) (hN : N ≤ w.heap.size) (hb : Below W.heap.size W W2) (hv : Boxed W (N + 4) 44 v)
    (hrow2 : TimeRow W2 (N + 8) v L) (hg : W2.grownBy w3 v.ownBlock) (hown : TimeRow w3 (N + 8) v' L') (hx : tgo d s b m n (pre ++ [x]) [] = (L', 0)) (B0 : Nat) :
    TInv N w d s b m n (pre ++ [x], r) (w3.setCell ⟨N + 4, 0, none⟩ v') ∧ KeepsFrom B0 W (w3.setCell ⟨N + 4, 0, none⟩ v') := by
  have hs := h.below.size
  have hlt := World.ownsRow.lt hrow2
  have hlt' := World.ownsRow.lt hown
  have hne : ∀ B, B < N + 8 → some B ≠ v.ownBlock := fun B hB e => by have := hlt B e.symm; omega
  have hg2 := grownBy_setCell' w3 (N + 4) v'
  have hne2 : ∀ B, B ≠ N + 4 → some B ≠ some (N + 4) := fun B hB e => hB (by injection e)
  have up : ∀ {B : Nat} {t : TypeId} {u : Value}, Boxed W B t u → B < N + 8 → B ≠ N + 4 → Boxed (w3.setCell ⟨N + 4, 0, none⟩ v') B t u := fun hu h6 h2 => ((S3.Boxed.under hu hb).kept hg (hne _ h6)).kept hg2 (hne2 _ h2)
  have hv3 : Boxed w3 (N + 4) 44 v := (S3.Boxed.under hv hb).kept hg (hne _ (by omega))
  have hsz := h.size
  have z2 := hb.size
  have z3 := hg.size
  have hb3 : Below N w (w3.setCell ⟨N + 4, 0, none⟩ v') := ((h.below.trans (hb.mono (by omega))).grown hg (by omega) (fun k hk => by have := hlt k hk; omega)).grown hg2 (by omega) (fun k e => by injection e; omega)
  refine ⟨⟨hb3, ?_, (hg2.block N (by omega) (hne2 _ (by omega))).trans ((hg.block N (by omega) (hne _ (by omega))).trans ((hb.block N (by omega)).trans h.g)), up h.n1 (by omega) (by omega), up h.r1 (by omega) (by omega), up h.r2 (by omega) (by omega), ⟨v', hv3.set v', ?_⟩, up h.v1 (by omega) (by omega), up h.v2 (by omega) (by omega), up h.v3 (by omega) (by omega), by rw [hx]⟩, ?_⟩
  · have := hg2.size; omega
  · rw [hx]
    exact World.ownsRow.kept hown hg2 (.inr fun e => by have := hlt' _ e; omega)
  · refine (((S3.keeps_below hb).trans (KeepsOthers.of_grownBy hg fun j o ej hj => ?_)).trans (KeepsOthers.setCell _ _ _)).from _
    obtain ⟨c, hc⟩ := row_kindT hrow2 j ej
    rw [hc] at hj
    cases hj
    rfl
end
/-- Both results stored, the mark taken. -/
theorem times_end {N D : Nat} {W : World} {u0 u1 v e : Value} (h1 : Boxed W (N + 2) 44 u0) (h2 : Boxed W (N + 3) 26 u1) (hD : N + 8 ≤ D) (hK : W.heap[D]? = some (.deferred (some []))) :
    ((W.setCell ⟨N + 2, 0, none⟩ v).setCell ⟨N + 3, 0, none⟩ e).heap[D]? = some (.deferred (some [])) ∧
    Boxed (((W.setCell ⟨N + 2, 0, none⟩ v).setCell ⟨N + 3, 0, none⟩ e).putObj D (.deferred none)) (N + 2) 44 v ∧ Boxed (((W.setCell ⟨N + 2, 0, none⟩ v).setCell ⟨N + 3, 0, none⟩ e).putObj D (.deferred none)) (N + 3) 26 e ∧
    Below N W (((W.setCell ⟨N + 2, 0, none⟩ v).setCell ⟨N + 3, 0, none⟩ e).putObj D (.deferred none)) ∧
    (∀ u k xs, W.ownsRow (N + 8) 55 4 u k xs → (((W.setCell ⟨N + 2, 0, none⟩ v).setCell ⟨N + 3, 0, none⟩ e).putObj D (.deferred none)).ownsRow (N + 8) 55 4 u k xs) := by
  have hg1 := grownBy_setCell' W (N + 2) v
  have hg2 := grownBy_setCell' (W.setCell ⟨N + 2, 0, none⟩ v) (N + 3) e
  have hg3 := grownBy_putObj' ((W.setCell ⟨N + 2, 0, none⟩ v).setCell ⟨N + 3, 0, none⟩ e) D (.deferred none)
  have hne : ∀ a b : Nat, a ≠ b → some a ≠ some b := fun a b h e => h (by injection e)
  have hlt := h2.lt
  have k0 : ((W.setCell ⟨N + 2, 0, none⟩ v).setCell ⟨N + 3, 0, none⟩ e).heap[D]? = some (.deferred (some [])) := (KeepsOthers.setCell _ _ _).same D _ ((KeepsOthers.setCell W _ _).same D _ hK rfl) rfl
  refine ⟨k0, ((h1.set v).kept hg2 (hne _ _ (by omega))).kept hg3 (hne _ _ (by omega)), ((h2.kept hg1 (hne _ _ (by omega))).set e).kept hg3 (hne _ _ (by omega)), ?_, ?_⟩
  · exact (((Below.refl N W).grown hg1 (by omega) (fun k e => by injection e; omega)).grown hg2 (by have := hg1.size; omega) (fun k e => by injection e; omega)).grown hg3 (by have := hg1.size; have := hg2.size; omega) (fun k e => by injection e; omega)
  · intro u k xs h
    have := h.lt
    exact ownsRow_putObj (World.ownsRow.kept (World.ownsRow.kept h hg1 (.inr fun e => by have := this _ e; omega)) hg2 (.inr fun e => by have := this _ e; omega)) _ k0 rfl
end Go.Proofs.YteckefolakjafaaGreatDoor

