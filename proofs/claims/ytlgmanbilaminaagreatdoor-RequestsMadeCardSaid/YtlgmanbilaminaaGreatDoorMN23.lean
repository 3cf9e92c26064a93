/-
  The walk of Plain. Conditions: as in R7Q. The sanity check of the laws of requests. Conditions: the variables hold what their text lays. The program's Write of .. Conditions: as stated.
-/
import Derived.Test.YtlgmanbilaminaaGreatDoorMN22
set_option linter.unusedVariables false
namespace Go.Proofs.YtlgmanbilaminaaGreatDoor
open Go Go.Proofs Go.RowKit Go.Lib
structure PIn (X : Nat) (line : Int) (wz w : World) (l : List FieldD) : Prop where
  x : ∃ A c, w.heap[X]? = some (.cells #[.int .i64 line, .slice A l.length c] 26 (0, 0)) ∧ FieldRow w (X + 1) (.slice A l.length c) l
  b : Below X wz w
theorem PIn.snoc {X g7 cap7 k cx : Nat} {line : Int} {wz wr w7 : World} {L0 : List FieldD} {f : FieldD} {Ax : Option Addr} (hb : Below X wz wr) (hxr : wr.ownsRow (X + 1) 99 3 (.slice Ax k cx) k (fieldVals L0)) (hg : wr.grownBy w7 (Value.slice Ax k cx).ownBlock)
    (hx7 : w7.heap[X]? = some (.cells #[.int .i64 line, .slice Ax k cx] 26 (0, 0))) (hown : w7.ownsRow (X + 1) 99 3 (.slice (some ⟨g7, 0, none⟩) (k + 1) cap7) (k + 1) (fieldVals L0 ++ fieldVs f)) (hl : L0.length = k) (hXs : X < wr.heap.size) :
    PIn X line wz (w7.setCell ⟨X, 1, none⟩ (.slice (some ⟨g7, 0, none⟩) (k + 1) cap7)) (L0 ++ [f]) := by
  have hs := hg.size
  have hg2 : w7.grownBy (w7.setCell ⟨X, 1, none⟩ (.slice (some ⟨g7, 0, none⟩) (k + 1) cap7)) (some X) := ⟨by simp [World.setCell], by simp [World.setCell], by simp [World.setCell], by simp [World.setCell], fun j _ hj => Below.heap_setCell w7 ⟨X, 1, none⟩ _ j (fun e => hj (by rw [show j = X from e]))⟩
  have hn : (L0 ++ [f]).length = k + 1 := by simp [hl]
  refine ⟨⟨some ⟨g7, 0, none⟩, cap7, ?_, ?_⟩, ?_⟩
  · rw [hn, heap_setCell_same w7 X 1 _ _ _ hx7]; rfl
  · unfold FieldRow
    rw [hn, fieldVals_app]
    refine World.ownsRow.kept ?_ hg2 (.inr fun e => ?_)
    · simpa [fieldVals] using hown
    · have := (World.ownsRow.lt hown _ e).1
      omega
  · exact (hb.grown hg (by omega) (fun j e => by have := (World.ownsRow.lt hxr j e).1; omega)).grown hg2 (by omega) (fun j e => by injection e; omega)
theorem RecRow.snoc {wz wr w9 : World} {B X n : Nat} {v v' : Value} {l : List RecD} {x : RecD} {Ax : Option Addr} {cx : Nat} {L : List RecA} (hL : L.map (·.1) = l) (ho : wz.ownsRow B 26 2 v n (recVals L))
    (hr : ∀ p ∈ L, FieldsIn wz (fun b => B ≤ b ∧ b < wz.heap.size ∧ v.ownBlock ≠ some b) p.2.1 p.1.2 ∧ p.1.2.length ≤ p.2.2 ∧ p.2.2 ≤ 9223372036854775807) (hn : L.length = n) (hX : wz.heap.size = X) (hBX : B ≤ X) (hb : Below X wz wr)
    (hf : FieldRow wr (X + 1) (.slice Ax x.2.length cx) x.2) (hg : wr.grownBy w9 v.ownBlock) (hat : v'.ownBlock = v.ownBlock ∨ ∃ j, v'.ownBlock = some j ∧ wr.heap.size ≤ j)
    (hown : w9.ownsRow B 26 2 v' (n + 1) (recVals L ++ recVs (x, (Ax, cx)))) : RecRow w9 B v' (l ++ [x]) := by
  have hs := hg.size
  have hbs := hb.size
  have hvl : ∀ g, v.ownBlock = some g → B ≤ g ∧ g < X := fun g e => hX ▸ World.ownsRow.lt ho g e
  have hne : ∀ b, b < wr.heap.size → v.ownBlock ≠ some b → v'.ownBlock ≠ some b := by
    intro b hb hne
    rcases hat with e | ⟨j, e, hj⟩
    · rw [e]; exact hne
    · rw [e]; intro e0; injection e0 with e0; omega
  refine ⟨L ++ [(x, (Ax, cx))], by rw [List.map_append, hL]; rfl, ?_, fun p hp => ?_⟩
  · rw [List.length_append, List.length_singleton, hn, recVals_app]
    simpa [recVals] using hown
  · rcases List.mem_append.1 hp with hp | hp
    · obtain ⟨f1, f2, f3⟩ := hr p hp
      refine ⟨(f1.kept (w' := w9) (fun b hb' => ?_)).mono (fun b hb' => ⟨hb'.1, by omega, hne b (by omega) hb'.2.2⟩), f2, f3⟩
      rw [hg.block b (by omega) (fun e => hb'.2.2 e.symm), hb.block b (by omega)]
    · rw [List.mem_singleton] at hp
      subst hp
      obtain ⟨A5, c5, eA, hl5, hc5, hI5⟩ := hf.fieldsIn
      obtain ⟨rfl, rfl⟩ : Ax = A5 ∧ cx = c5 := by injection eA with e1 _ e3; exact ⟨e1, e3⟩
      have hown5 : ∀ b, (Value.slice Ax x.2.length cx).ownBlock = some b → X + 1 ≤ b ∧ b < wr.heap.size := fun b e => World.ownsRow.lt hf b e
      have hnv : ∀ b, (Value.slice Ax x.2.length cx).ownBlock = some b → v.ownBlock ≠ some b := fun b e e2 => by have := hown5 b e; have := hvl b e2; omega
      refine ⟨(hI5.kept (w' := w9) (fun b hb' => hg.block b (hown5 b hb').2 (fun e => hnv b hb' e.symm))).mono (fun b hb' => ⟨by have := hown5 b hb'; omega, by have := hown5 b hb'; omega, hne b (hown5 b hb').2 (hnv b hb')⟩), hl5, hc5⟩
set_option maxHeartbeats 8000000 in
set_option maxRecDepth 100000 in
theorem plain_any (A : Option Addr) (rows : List (List Str)) (c B : Nat) (w : World) (hB : B ≤ w.heap.size) (h : RowsIn w (fun b => b < B) A rows) (hr : rows.length ≤ 1000000) (hf : ∀ r ∈ rows, r.length ≤ 1000000) (hs : ∀ r ∈ rows, ∀ s ∈ r, s.length ≤ 1000000) :
    Calls Tryz.prog 31 #[.slice A rows.length c] w fun e w' => (∃ v, e = .returned v ∧ RecRow w' w.heap.size v (plainM rows)) ∧ Below w.heap.size w w' := by
  obtain ⟨iF, hiF, hzF, hsF, hbF⟩ := info_parts infoField
  obtain ⟨iR, hiR, hzR, hsR, hbR⟩ := info_parts infoRec
  have HH := hid h
  have HF := hid hf
  have HS := hid hs
  clear h hf hs
  go_enter Tryz.func31, Tryz.ntmps31
  go_wp2
  go_loopw [3, 4, 5, 6, 7] (fun v iv _ _ _ wr => ∃ (i : Nat) (Ao : Option Addr) (no co : Nat), v = .slice Ao no co ∧ iv = .int .i64 (i : Int) ∧ i ≤ rows.length ∧ Hid (RecRow wr w.heap.size (.slice Ao no co) (plainM (rows.take i))) ∧ Hid (Below w.heap.size w wr)) (fun _ iv _ _ _ _ => rows.length - (RowKit.intOf iv).toNat)
  case atStart => exact ⟨0, _, _, _, rfl, rfl, Nat.zero_le _, hid ⟨[], rfl, World.ownsRow_nil _ _ _ _, fun p hp => by simp at hp⟩, hid (Below.refl _ _)⟩
  case round =>
    obtain ⟨i, Ao, no, co, rfl, rfl, hi, hO, hBw⟩ := hrel
    by_cases hlt : i < rows.length
    · have hltz : (i : Int) < (rows.length : Int) := by omega
      have q1 : IntKind.i64.wrap ((i : Int) + 1) = (i : Int) + 1 := IntWalk.i64_in _ (by omega)
      obtain ⟨b1, o1, A1, c1, rfl, hb1, g1, e1, e2, s1⟩ := ((HH.out.mono (fun b hb => Nat.lt_of_lt_of_le hb hB)).below hBw.out).at_ hlt
      have hfl := HF.out _ (List.getElem_mem hlt)
      have hsl := HS.out _ (List.getElem_mem hlt)
      have hst := plainM_take rows i hlt
      obtain ⟨row, hrow⟩ : ∃ r, rows[i] = r := ⟨_, rfl⟩
      rw [hrow] at g1 e1 s1 hfl hsl hst
      have HST := hid hst
      have HSL := hid hsl
      have S1 := hid s1
      have hX0 := heap_alloc_new wr (.cells #[.int .i64 ((i : Int) + 1), .slice none 0 0] 26)
      have hB0 := (Below.refl wr.heap.size wr).alloc (Nat.le_refl _) (.cells #[.int .i64 ((i : Int) + 1), .slice none 0 0] 26)
      have hs0 : (wr.alloc (.cells #[.int .i64 ((i : Int) + 1), .slice none 0 0] 26)).heap.size = wr.heap.size + 1 := by simp
      have HX0 := hid hX0
      have HB0 := hid hB0
      have HS0 := hid hs0
      clear hst hsl s1 hrow hX0 hB0 hs0
      go_wp2_with fail
      generalize wr.alloc (.cells #[.int .i64 ((i : Int) + 1), .slice none 0 0] 26) = wx at HX0 HB0 HS0 ⊢
      have hk0 : PIn wr.heap.size ((i : Int) + 1) wr wx [] := ⟨⟨none, 0, HX0.out, World.ownsRow_nil _ _ _ _⟩, HB0.out⟩
      have hwz := hBw.out.size
      have HK0 := hid hk0
      clear hk0 HX0 HB0 HS0
      generalize hz : wr = wz at *
      obtain ⟨X, hX⟩ : ∃ X, wz.heap.size = X := ⟨_, rfl⟩
      have hbX : b1 < X := by omega
      have HBW := hid hBw.out
      have HO := hid hO.out
      rw [hX] at HK0 hwz ⊢
      clear hz hO hBw
      go_loopw [6, 7] (fun cv kv wr2 => ∃ (k : Nat) (cl : Int), cv = .int .i64 cl ∧ kv = .int .i64 (k : Int) ∧ k ≤ row.length ∧ Hid (cl = colAt 1 (row.take k)) ∧ Hid (PIn X ((i : Int) + 1) wz wr2 (colsM 1 (row.take k)))) (fun _ kv _ => row.length - (RowKit.intOf kv).toNat)
      case atStart => exact ⟨0, 1, rfl, rfl, Nat.zero_le _, hid rfl, hid HK0.out⟩
      case round =>
        obtain ⟨k, cl, rfl, rfl, hk, hcl, hP⟩ := hrel
        obtain ⟨⟨Ax, cx, hxb, hxr⟩, hPb⟩ := hP.out
        have kc : ∀ b o : Nat, b < w.heap.size → wr.cell? ⟨b, o, none⟩ = wz.cell? ⟨b, o, none⟩ := fun b o hb => hPb.cell (p := ⟨b, o, none⟩) (by show b < X; omega)
        have g2 : wr.cell? ⟨b1, o1 + i, none⟩ = some (.slice A1 row.length c1) := by rw [kc b1 _ hb1]; exact g1
        have cx0 : wr.cell? ⟨X, 0, none⟩ = some (.int .i64 ((i : Int) + 1)) := by rw [Lib.cell_of_heap hxb]; rfl
        have cx1 : wr.cell? ⟨X, 1, none⟩ = some (.slice Ax (colsM 1 (row.take k)).length cx) := by rw [Lib.cell_of_heap hxb]; rfl
        have fx1 : wr.frozen? ⟨X, 1, none⟩ = false := by simp [World.frozen?, hxb]
        by_cases hlk : k < row.length
        · have hlkz : (k : Int) < (row.length : Int) := by omega
          obtain ⟨b2, o2, rfl, hb2, g3⟩ := S1.out.at_ hlk
          have hXs : X < wr.heap.size := (Array.getElem?_eq_some_iff.1 hxb).1
          have hb1s : b1 < wr.heap.size := by omega
          have hb2s : b2 < wr.heap.size := by omega
          have g3' : wr.cell? ⟨b2, o2 + k, none⟩ = some (.string (ba row[k])) := by rw [kc b2 _ hb2]; exact g3
          obtain ⟨str, hstr⟩ : ∃ t, row[k] = t := ⟨_, rfl⟩
          rw [hstr] at g3'
          have hnk : (colsM 1 (row.take k)).length = k := by rw [colsM_len, List.length_take]; omega
          have hslen := HSL.out str (by rw [← hstr]; exact List.getElem_mem hlk)
          have hcols : colsM 1 (row.take (k + 1)) = colsM 1 (row.take k) ++ [(str, cl, false)] := by rw [List.take_succ_eq_append_getElem hlk, colsM_app, hstr, hcl.out]; rfl
          have hcl2 : colAt 1 (row.take (k + 1)) = cl + ((str.length : Int) + 1) := by rw [List.take_succ_eq_append_getElem hlk, colAt_snoc, hstr, hcl.out]
          have hclr := colAt_range 1 (row.take k) (fun s hs => HSL.out s (List.mem_of_mem_take hs))
          rw [← hcl.out, List.length_take] at hclr
          unfold FieldRow at hxr
          rw [hnk] at hxr cx1 hxb
          have HXB := hid hxb
          obtain ⟨L0, hL0⟩ : ∃ L0, colsM 1 (row.take k) = L0 := ⟨_, rfl⟩
          rw [hL0] at hxr hcols
          have HXR := hid hxr
          have HM : Hid (k + 1 ≤ maxLen) := hid (by unfold maxLen; omega)
          have HM2 : Hid ((k + 1) * 32 ≤ 140737488355328) := hid (by omega)
          have HCO := hid hcols
          have HC2 := hid hcl2
          have hwq : IntKind.i64.wrap ((k : Int) + 1) = (k : Int) + 1 := IntWalk.i64_in _ (by omega)
          have hsz : (ba str).size = str.length := Lib.size_eq _
          have HL0 : Hid (L0.length = k) := hid (by rw [← hL0]; exact hnk)
          have HPB := hid hPb
          have G3 : Hid (wz.cell? ⟨b2, o2 + k, none⟩ = some (.string (ba str))) := hid (by rw [← hstr]; exact g3)
          clear hxr hcols hcl2 kc g3 hnk hL0
          obtain ⟨z, hzs⟩ : ∃ z, ba str = z := ⟨_, rfl⟩
          rw [hzs] at g3' hsz G3
          have HZS := hid hzs
          clear hzs
          have HFN : Hid (∀ (w : World) (j : Nat) (u : Value), (fieldVs (str, cl, false))[j]? = some u → (w.alloc (.cells #[.string z, .int .i64 cl, .bool false] 99)).cell? ((⟨w.heap.size, 0, none⟩ : Addr).add j) = some u) := hid (fun w j u h => by
            have e := heap_alloc_new w (.cells #[.string z, .int .i64 cl, .bool false] 99)
            rw [Addr.add_lit, Lib.cell_of_heap e]
            match j, h with
            | 0, h => rw [← HZS.out]; exact h
            | 1, h => exact h
            | 2, h => exact h
            | j + 3, h => simp [fieldVs] at h)
          have HF1 : Hid (∀ u ∈ fieldVs (str, cl, false), u.oneCell' = true) := hid (fun u hu => by
            simp [fieldVs] at hu
            rcases hu with rfl | rfl | rfl <;> rfl)
          go_wp2_with fail
          go_region_law (
            (refine step_append_lies _ ?_ (.tmp 27) (.tmp 37) 24 ?_ (X + 1) 99 iF (.agg #[.string ⟨#[]⟩, .int .i64 0, .bool false]) 3 32 Tryz.underlying24 hiF hzF hsF hbF ?_ ?_ (.slice Ax k cx) k (fieldVals L0) ?_ ?_ ⟨wr.heap.size, 0, none⟩ 1 1 (fieldVs (str, cl, false)) ?_ ?_ ?_ ?_ (by decide) HM.out HM2.out ?_ (wr.heap.size + 1) ?_ ?_
             · rfl
             · rfl
             · rfl
             · decide
             · simp [Act.eval]
             · exact row_drawn (World.ownsRow.alloc HXR.out _) 1
             · simp [Act.eval]
             · rfl
             · exact HFN.out wr
             · exact HF1.out
             · simp; omega
             · simp
             intro g7 cap7 w7 hown7 hgrow7 hat7 hlt7
             have HOW := hid hown7
             have HGR := hid hgrow7
             have HAT := hid hat7
             have hgw : wr.grownBy w7 (Value.slice Ax k cx).ownBlock := ⟨hgrow7.os, hgrow7.tape, hgrow7.output, by have := hgrow7.size; simp at this; omega, fun j hj hr => (hgrow7.block j (by simp; omega) hr).trans (Below.heap_alloc wr _ j hj)⟩
             have hx7 : w7.heap[X]? = some (.cells #[.int .i64 ((i : Int) + 1), .slice Ax k cx] 26 (0, 0)) := (hgrow7.block X (by simp; omega) (fun e => by have := (World.ownsRow.lt HXR.out X e.symm).1; omega)).trans ((Below.heap_alloc wr _ X hXs).trans HXB.out)
             have c71 : w7.cell? ⟨X, 1, none⟩ = some (.slice Ax k cx) := by rw [Lib.cell_of_heap hx7]; rfl
             have f71 : w7.frozen? ⟨X, 1, none⟩ = false := by simp [World.frozen?, hx7]
             have HX7 := hid hx7
             have hP8 := PIn.snoc HPB.out HXR.out hgw hx7 hown7 HL0.out hXs
             have HP8 := hid hP8
             clear hown7 hgrow7 hat7 hx7 hgw hP8 HGR HOW HAT HX7))
          all_goals
            obtain ⟨w8, h8⟩ : ∃ w8, w7.setCell ⟨X, 1, none⟩ (.slice (some ⟨g7, 0, none⟩) (k + 1) cap7) = w8 := ⟨_, rfl⟩
            rw [h8] at HP8 ⊢
            clear h8
            have kc8 : ∀ b o : Nat, b < w.heap.size → w8.cell? ⟨b, o, none⟩ = wz.cell? ⟨b, o, none⟩ := fun b o hb => HP8.out.b.cell (p := ⟨b, o, none⟩) (by show b < X; omega)
            have g28 : w8.cell? ⟨b1, o1 + i, none⟩ = some (.slice (some ⟨b2, o2, none⟩) row.length c1) := by rw [kc8 b1 _ hb1]; exact g1
            have g38 : w8.cell? ⟨b2, o2 + k, none⟩ = some (.string z) := by rw [kc8 b2 _ hb2]; exact G3.out
            have hq1 : IntKind.i64.wrap ((z.size : Int) + 1) = (z.size : Int) + 1 := IntWalk.i64_in _ (by omega)
            have hq2 : IntKind.i64.wrap (cl + ((z.size : Int) + 1)) = cl + ((z.size : Int) + 1) := IntWalk.i64_in _ (by omega)
            clear kc8
            go_wp2
            refine ⟨⟨k + 1, _, rfl, by go_num, by omega, hid HC2.out.symm, hid ?_⟩, by simp [RowKit.intOf]; omega⟩
            rw [HCO.out]
            exact HP8.out
        · have hkr : k = row.length := by omega
          subst hkr
          rw [List.take_of_length_le (Nat.le_refl _)] at hcl hxr hxb cx1
          rw [colsM_len] at cx1 hxb hxr
          have hlkz : ¬ ((row.length : Int) < (row.length : Int)) := by omega
          have hXs : X < wr.heap.size := (Array.getElem?_eq_some_iff.1 hxb).1
          have hb1s : b1 < wr.heap.size := by omega
          obtain ⟨L, hL, ho, hr⟩ := HO.out
          have hLl : L.length = i := by
            have := congrArg List.length hL
            rw [List.length_map, plainM_len, List.length_take] at this
            omega
          have hno : no = i := by
            rcases ho.2 with ⟨hv, h0⟩ | ⟨g, cap, cur, hv, _⟩
            · injection hv with _ h1 _; omega
            · injection hv with _ h1 _; omega
          subst hno
          rw [hLl] at ho
          have ho2 : wr.ownsRow w.heap.size 26 2 (.slice Ao no co) no (recVals L) := row_under ho (by rw [hX]; exact hPb)
          have HO2 := hid ho2
          have HL := hid hL
          have HLl := hid hLl
          have HRR := hid hr
          have HOZ := hid ho
          have HM : Hid (no + 1 ≤ maxLen) := hid (by unfold maxLen; omega)
          have HM2 : Hid ((no + 1) * 32 ≤ 140737488355328) := hid (by omega)
          have HXR := hid hxr
          have HPB := hid hPb
          have HSZ : Hid (∀ o : Obj, w.heap.size ≤ (wr.alloc o).heap.size) := hid (fun o => by simp; omega)
          have HNW : Hid (∀ (j : Nat) (u : Value), ([Value.int .i64 ((no : Int) + 1), .slice Ax row.length cx] : List Value)[j]? = some u → (wr.alloc (.cells #[.int .i64 ((no : Int) + 1), .slice Ax row.length cx] 26)).cell? ((⟨wr.heap.size, 0, none⟩ : Addr).add j) = some u) := hid (fun j u h => by
            have e := heap_alloc_new wr (.cells #[.int .i64 ((no : Int) + 1), .slice Ax row.length cx] 26)
            rw [Addr.add_lit, Lib.cell_of_heap e]
            match j, h with
            | 0, h => exact h
            | 1, h => exact h
            | j + 2, h => simp at h)
          have HN1 : Hid (∀ u ∈ ([Value.int .i64 ((no : Int) + 1), .slice Ax row.length cx] : List Value), u.oneCell' = true) := hid (fun u hu => by
            simp at hu
            rcases hu with rfl | rfl <;> rfl)
          clear ho2 hL hr ho hxr hPb hLl kc
          go_wp2_with (at_builtin; refine wpList_append_own_at _ rfl _ _ 23 rfl w.heap.size 26 iR (.agg #[.int .i64 0, .slice none 0 0]) 2 32 Tryz.underlying23 hiR hzR hsR hbR rfl (by decide) _ no (recVals L) rfl (World.ownsRow.alloc HO2.out _) ⟨wr.heap.size, 0, none⟩ 1 1 [.int .i64 ((no : Int) + 1), .slice Ax row.length cx] rfl rfl HNW.out HN1.out HM.out HM2.out (HSZ.out _) ?_)
          intro v' w9 hown9 hgrow9 hnil9 hat9
          obtain ⟨g', cap', rfl⟩ := ownsRow_succ (k := no) hown9
          have hg9 := grownBy_of_alloc hgrow9
          have hrv : recVs ((((no : Int) + 1, colsM 1 row), (Ax, cx)) : RecA) = [.int .i64 ((no : Int) + 1), .slice Ax row.length cx] := by simp [recVs, colsM_len]
          have hsn := RecRow.snoc (x := ((no : Int) + 1, colsM 1 row)) HL.out HOZ.out HRR.out HLl.out hX (by omega) HPB.out (by have h := HXR.out; rw [← colsM_len 1 row] at h; exact h) hg9 (hat9.imp id (fun h => ⟨_, h, by simp⟩)) (by rw [hrv]; exact hown9)
          rw [← HST.out] at hsn
          have hb9 : Below w.heap.size w w9 := (HBW.out.trans (HPB.out.mono (by omega))).grown hg9 (by omega) (fun j e => by have := (World.ownsRow.lt HO2.out j e).1; omega)
          have HSN := hid hsn
          have HB9 := hid hb9
          clear hsn hb9 hg9 hown9 hgrow9 hnil9 hat9 hrv
          go_wp2
          exact ⟨⟨no + 1, _, _, _, rfl, by go_num, by omega, HSN, HB9⟩, by simp [RowKit.intOf]; omega⟩
    · have hltz : ¬ (i : Int) < (rows.length : Int) := by omega
      have HO2 : Hid (RecRow wr w.heap.size (.slice Ao no co) (plainM rows)) := hid (by have := hO.out; rwa [List.take_of_length_le (by omega)] at this)
      go_wp2
      go_ret
      exact ⟨⟨_, rfl, HO2.out⟩, hBw.out⟩
end Go.Proofs.YtlgmanbilaminaaGreatDoor
namespace Go.Proofs.YtlgmanbilaminaaGreatDoor.S12
open Go Go.Proofs Go.RowKit Go.Lib Go.Proofs.YtlgmanbilaminaaGreatDoor Go.Proofs.YtlgmanbilaminaaGreatDoor.S10
def awR1 : List Str := [[115, 49], [65], [50], []]
def awR2 : List Str := [[115, 49], [66], [49], [67]]
def awQ1 : ReqD := ⟨[115, 49], [65], 2, []⟩
def awQ2 : ReqD := ⟨[115, 49], [66], 1, [[67]]⟩
theorem awRows : [awR1, awR2] = [awQ1, awQ2].map rowQ := by kernel_rfl
theorem awRead : recsM (plainM [awR1, awR2]) = ([awQ1, awQ2], []) := by
  rw [awRows]
  refine recs_rowQ (by decide) (by decide) (fun r hr => ?_)
  simp only [List.mem_cons, List.not_mem_nil, or_false] at hr
  rcases hr with rfl | rfl <;> decide +kernel
theorem awWant : wantM [awQ1, awQ2] [115, 49] = [awQ2, awQ1] := by kernel_rfl
theorem awLen : (wantF [awQ1, awQ2] [115, 49]).length = 2 := by kernel_rfl
theorem awSize : ∀ x ∈ plainM [awR1, awR2], ∀ f ∈ x.2, f.1.length < 4294967281 := fun x hx f hf => by
  obtain ⟨r, hr, hfr⟩ := plainM_memQ hx f hf
  simp only [List.mem_cons, List.not_mem_nil, or_false] at hr
  have : f.1.length ≤ 2 := by
    rcases hr with rfl | rfl
    · simp only [awR1, List.mem_cons, List.not_mem_nil, or_false] at hfr
      rcases hfr with h | h | h | h <;> rw [h] <;> decide
    · simp only [awR2, List.mem_cons, List.not_mem_nil, or_false] at hfr
      rcases hfr with h | h | h | h <;> rw [h] <;> decide
  omega
theorem aw_rows (w : World) : ∃ w2, w2 = ((w.alloc (.cells #[.string ⟨#[115, 49]⟩, .string ⟨#[65]⟩, .string ⟨#[50]⟩, .string ⟨#[]⟩] 9)).alloc (.cells #[.string ⟨#[115, 49]⟩, .string ⟨#[66]⟩, .string ⟨#[49]⟩, .string ⟨#[67]⟩] 9)).alloc (.cells #[.slice (some ⟨w.heap.size, 0, none⟩) 4 4, .slice (some ⟨w.heap.size + 1, 0, none⟩) 4 4] 40) ∧
    RowsIn w2 (fun k => k < w.heap.size + 3) (some ⟨w.heap.size + 2, 0, none⟩) [awR1, awR2] ∧ Below w.heap.size w w2 ∧ w2.heap.size = w.heap.size + 3 := by
  refine ⟨_, rfl, ?_, (((Below.refl _ w).alloc (Nat.le_refl _) _).alloc (by simp) _).alloc (by simp; omega) _, by simp⟩
  have e1 := heap_alloc_new w (.cells #[.string ⟨#[115, 49]⟩, .string ⟨#[65]⟩, .string ⟨#[50]⟩, .string ⟨#[]⟩] 9)
  have hs : (w.alloc (.cells #[.string ⟨#[115, 49]⟩, .string ⟨#[65]⟩, .string ⟨#[50]⟩, .string ⟨#[]⟩] 9)).heap.size = w.heap.size + 1 := by simp
  generalize w.alloc (.cells #[.string ⟨#[115, 49]⟩, .string ⟨#[65]⟩, .string ⟨#[50]⟩, .string ⟨#[]⟩] 9) = w1 at e1 hs ⊢
  have e2 := heap_alloc_new w1 (.cells #[.string ⟨#[115, 49]⟩, .string ⟨#[66]⟩, .string ⟨#[49]⟩, .string ⟨#[67]⟩] 9)
  have e3 := (Below.heap_alloc w1 (.cells #[.string ⟨#[115, 49]⟩, .string ⟨#[66]⟩, .string ⟨#[49]⟩, .string ⟨#[67]⟩] 9) w.heap.size (by omega)).trans e1
  have hs2 : (w1.alloc (.cells #[.string ⟨#[115, 49]⟩, .string ⟨#[66]⟩, .string ⟨#[49]⟩, .string ⟨#[67]⟩] 9)).heap.size = w.heap.size + 2 := by simp [hs]
  rw [hs] at e2
  generalize w1.alloc (.cells #[.string ⟨#[115, 49]⟩, .string ⟨#[66]⟩, .string ⟨#[49]⟩, .string ⟨#[67]⟩] 9) = w2 at e2 e3 hs2 ⊢
  have e4 := heap_alloc_new w2 (.cells #[.slice (some ⟨w.heap.size, 0, none⟩) 4 4, .slice (some ⟨w.heap.size + 1, 0, none⟩) 4 4] 40)
  have e5 := (Below.heap_alloc w2 (.cells #[.slice (some ⟨w.heap.size, 0, none⟩) 4 4, .slice (some ⟨w.heap.size + 1, 0, none⟩) 4 4] 40) w.heap.size (by omega)).trans e3
  have e6 := (Below.heap_alloc w2 (.cells #[.slice (some ⟨w.heap.size, 0, none⟩) 4 4, .slice (some ⟨w.heap.size + 1, 0, none⟩) 4 4] 40) (w.heap.size + 1) (by omega)).trans e2
  rw [hs2] at e4
  refine .inr ⟨w.heap.size + 2, 0, rfl, by omega, fun j l hj => ?_⟩
  match j, hj with
  | 0, hj =>
    obtain rfl : awR1 = l := by simpa using hj
    refine ⟨some ⟨w.heap.size, 0, none⟩, 4, by rw [Lib.cell_of_heap e4]; rfl, by decide, by decide, .inr ⟨w.heap.size, 0, rfl, by omega, fun j s hj => ?_⟩⟩
    match j, hj with
    | 0, hj => obtain rfl : [115, 49] = s := by simpa [awR1] using hj
               rw [Lib.cell_of_heap e5]; rfl
    | 1, hj => obtain rfl : [65] = s := by simpa [awR1] using hj
               rw [Lib.cell_of_heap e5]; rfl
    | 2, hj => obtain rfl : [50] = s := by simpa [awR1] using hj
               rw [Lib.cell_of_heap e5]; rfl
    | 3, hj => obtain rfl : [] = s := by simpa [awR1] using hj
               rw [Lib.cell_of_heap e5]; rfl
    | j + 4, hj => simp [awR1] at hj
  | 1, hj =>
    obtain rfl : awR2 = l := by simpa using hj
    refine ⟨some ⟨w.heap.size + 1, 0, none⟩, 4, by rw [Lib.cell_of_heap e4]; rfl, by decide, by decide, .inr ⟨w.heap.size + 1, 0, rfl, by omega, fun j s hj => ?_⟩⟩
    match j, hj with
    | 0, hj => obtain rfl : [115, 49] = s := by simpa [awR2] using hj
               rw [Lib.cell_of_heap e6]; rfl
    | 1, hj => obtain rfl : [66] = s := by simpa [awR2] using hj
               rw [Lib.cell_of_heap e6]; rfl
    | 2, hj => obtain rfl : [49] = s := by simpa [awR2] using hj
               rw [Lib.cell_of_heap e6]; rfl
    | 3, hj => obtain rfl : [67] = s := by simpa [awR2] using hj
               rw [Lib.cell_of_heap e6]; rfl
    | j + 4, hj => simp [awR2] at hj
  | j + 2, hj => simp at hj
set_option maxHeartbeats 16000000 in
set_option maxRecDepth 100000 in
theorem awake_any (w : World) (hE : S3.Env w) : Calls Tryz.prog 7 #[] w (Says (.bool true) w) := by
  obtain ⟨w2, hw2, hrows, hb2, hs2⟩ := aw_rows w
  have cP := plain_any (some ⟨w.heap.size + 2, 0, none⟩) [awR1, awR2] 2 (w.heap.size + 3) w2 (by omega) hrows (by decide) (by decide) (by decide)
  have CP := hid cP
  have HB2 := hid hb2
  have HW2 := hid hw2
  clear cP hb2 hrows hw2
  unfold Says
  go_enter Tryz.func7, Tryz.ntmps7
  go_wp2_with fail
  rw [← HW2.out]
  refine CP.out.mono ?_
  rintro e w3 ⟨⟨v, rfl, hrr⟩, hb3⟩
  obtain ⟨A3, c3, rfl, hl3, hc3, hrin⟩ := hrr.recsIn
  have hB3 : Below w.heap.size w w3 := HB2.out.trans (hb3.mono HB2.out.size)
  have cR := qread_any A3 (plainM [awR1, awR2]) c3 w3 (hrin.mono (fun k hk => hk.2)) (by rw [plainM_len]; decide) awSize (hE.below hB3)
  rw [awRead, plainM_len] at cR
  rw [plainM_len]
  unfold ReadOut at cR
  have CR := hid cR
  have HB3 := hid hB3
  clear cR hB3 hb3 hl3 hrin hrr hE HB2 CP HW2 hs2
  go_wp2_with fail
  refine CR.out.mono ?_
  rintro e w5 ⟨v1, v2, rfl, hrm, hpr, hb5⟩
  obtain ⟨A4, c4, rfl, hl4, hc4, hin4⟩ := hrm.reqsIn
  have hv2 : ∃ A5 c5, v2 = .slice A5 0 c5 := by
    rcases hpr.2 with ⟨hv, _⟩ | ⟨g, cap, cur, hv, _⟩
    · exact ⟨_, _, hv⟩
    · exact ⟨_, _, hv⟩
  obtain ⟨A5, c5, rfl⟩ := hv2
  have hB5 : Below w.heap.size w w5 := HB3.out.trans (hb5.mono HB3.out.size)
  have hin5 : ReqsIn w5 (fun k => k < w5.heap.size) A4 [awQ1, awQ2] := hin4.mono (fun k hk => by rcases hk with h | h <;> exact h.2)
  have cW := wanted_any A4 [awQ1, awQ2] c4 ⟨#[115, 49]⟩ w5 hin5 (by decide) (fun r hr => by
    simp only [List.mem_cons, List.not_mem_nil, or_false] at hr
    rcases hr with rfl | rfl <;> decide) (by rw [show lst (⟨#[115, 49]⟩ : ByteArray) = [115, 49] from rfl, awLen]; exact said_small (by decide))
  rw [show lst (⟨#[115, 49]⟩ : ByteArray) = [115, 49] from rfl, awWant] at cW
  unfold WantOut at cW
  have CW := hid cW
  have HB5 := hid hB5
  clear cW hB5 hin5 hrm hpr hb5 hin4 CR HB3
  simp only [List.length_cons, List.length_nil, Nat.zero_add, Nat.reduceAdd] at hl4 CW ⊢
  go_wp2_with fail
  refine CW.out.mono ?_
  rintro e w6 ⟨⟨v6, rfl, hr6⟩, hb6⟩
  obtain ⟨A6, c6, rfl, hl6, hc6, hin6⟩ := hr6.reqsIn
  obtain ⟨b, off, q, rfl, hPb, hrq, z0, z1, z2, z3⟩ := hin6.at_ (k := 0) (by decide)
  simp only [List.getElem_cons_zero, Nat.zero_mul, Nat.add_zero] at hrq z0 z1 z2 z3
  rw [show ba awQ2.c = ⟨#[66]⟩ from rfl] at z1
  have HB6 := hid (HB5.out.trans (hb6.mono HB5.out.size))
  clear hr6 hin6 hb6 hPb hrq z0 z2 z3 CW HB5
  simp only [List.length_cons, List.length_nil, Nat.zero_add, Nat.reduceAdd] at hl6 ⊢
  go_wp2
  go_ret
  exact ⟨rfl, HB6.out⟩
end Go.Proofs.YtlgmanbilaminaaGreatDoor.S12
namespace Go.Proofs.YtlgmanbilaminaaGreatDoor.S12
open Go Go.Proofs Go.RowKit Go.Lib Go.Proofs.YtlgmanbilaminaaGreatDoor
set_option maxHeartbeats 2000000 in
theorem cwrite_any (A : Option Addr) (l : List Str) (c : Nat) (w : World) (h : S3.StrsIn w (fun b => b < w.heap.size) A l) (hlc : l.length ≤ c) (hc : c ≤ 9223372036854775807) (hk : S3.checkM l = 0) (hE : S3.Env w) :
    Calls Tryz.prog 60 #[.slice A l.length c] w (Says (.string (ba (S3.joinM l))) w) := by
  have cJ := S3.cjoin_any A l c w h hlc hc hE
  unfold S3.JoinOut at cJ
  rw [if_pos hk, hk] at cJ
  unfold Says
  rw [show S3.ba (S3.joinM l) = ba (S3.joinM l) from rfl] at cJ
  obtain ⟨J, hJ⟩ : ∃ J, ba (S3.joinM l) = J := ⟨_, rfl⟩
  rw [hJ] at cJ ⊢
  obtain ⟨n, hn⟩ : ∃ n, l.length = n := ⟨_, rfl⟩
  rw [hn] at cJ ⊢
  have CJ := hid cJ
  clear cJ hJ hn h hlc hk hE
  go_enter Tryz.func60, Tryz.ntmps60
  go_wp2_with fail
  refine CJ.out.mono ?_
  rintro e w1 ⟨rfl, hb⟩
  have HB := hid hb
  clear hb
  go_wp2
  go_ret
  exact ⟨rfl, HB.out⟩
structure KQ (w : World) (v0 v1 v2 v3 : Value) (W : World) : Prop where
  b : Below w.heap.size w W
  x : Box4 W w.heap.size v0 v1 v2 v3
theorem KQ.next {w W W' : World} {v0 v1 v2 v3 : Value} (h : KQ w v0 v1 v2 v3 W) (hb : Below W.heap.size W W') : KQ w v0 v1 v2 v3 W' := ⟨h.b.trans (hb.mono h.b.size), h.x.next hb⟩
set_option maxHeartbeats 16000000 in
set_option maxRecDepth 100000 in
theorem qfields_any (x : ReqD) (q : ReqA) (w : World) (h : ReqIn w (fun k => k < w.heap.size) x q) (hx : reqM x = 0) (hv : S3.checkM x.l = 0) (hE : S3.Env w) :
    Calls Tryz.prog 35 #[reqV x q] w (S3.RowOut (rowQ x) w) := by
  obtain ⟨_, _, p1, p9, _, _⟩ := reqM_all hx
  obtain ⟨st, co, p, l⟩ := x
  obtain ⟨A, c⟩ := q
  obtain ⟨ht, ht1, ht2⟩ := h
  dsimp only at ht ht1 ht2 hv p1 p9
  unfold reqV rowQ S3.RowOut
  dsimp only
  have hk0 : KQ w (.string (ba st)) (.string (ba co)) (.int .i64 p) (.slice A l.length c) (w.alloc (.cells #[.string (ba st), .string (ba co), .int .i64 p, .slice A l.length c] 61)) := ⟨(Below.refl _ _).alloc (Nat.le_refl _) _, Box4.new _ _ _ _ _⟩
  have cI := hid (fun (w' : World) (hb : Below w.heap.size w w') => itoa4_any p (by omega) (by omega) w' (hE.below hb))
  have cW := hid (fun (w' : World) (hb : Below w.heap.size w w') => cwrite_any A l c w' ((ht.below hb).mono (fun k hk => Nat.lt_of_lt_of_le hk hb.size)) ht1 ht2 hv (hE.below hb))
  unfold Says at cI cW
  obtain ⟨X1, hX1⟩ : ∃ X, ba st = X := ⟨_, rfl⟩
  obtain ⟨X2, hX2⟩ : ∃ X, ba co = X := ⟨_, rfl⟩
  obtain ⟨X3, hX3⟩ : ∃ X, ba (decDigits p.toNat) = X := ⟨_, rfl⟩
  obtain ⟨X4, hX4⟩ : ∃ X, ba (S3.joinM l) = X := ⟨_, rfl⟩
  have hrow : Hid (S3.strVals [st, co, decDigits p.toNat, S3.joinM l] = [.string X1, .string X2, .string X3, .string X4]) := hid (by rw [← hX1, ← hX2, ← hX3, ← hX4]; rfl)
  rw [hX3] at cI
  rw [hX4] at cW
  rw [hX1, hX2] at hk0 ⊢
  obtain ⟨n, hn⟩ : ∃ F, l.length = F := ⟨_, rfl⟩
  rw [hn] at hk0 cW ⊢
  have CI := cI
  have CW := cW
  have HK0 := hid hk0
  clear ht cI cW hX1 hX2 hX3 hX4 hn hk0 hE ht1 hv hx p1 p9
  go_enter Tryz.func35, Tryz.ntmps35
  go_wp2_with fail
  have hk := HK0.out
  clear HK0
  generalize World.alloc _ _ = wx at hk ⊢
  have HK1 := hid hk
  clear hk
  refine wp_region_held_drew (S := KQ w (.string X1) (.string X2) (.int .i64 p) (.slice A n c)) (by kernel_rfl) (HK1.out.next (Below.refl _ _).drew) (fun hHeld => ?_)
  (refine wpAnyH_take (i := 0) (oi := _) (v := ?_) rfl (by kernel_rfl) (by kernel_rfl) (by kernel_rfl) (fun _ _ _ h => h) (Or.inl ⟨by rfl, ?_⟩) (by assumption) ?_; rotate_left; (intro wS hSw; obtain ⟨x0, x1, x2, x3⟩ := hSw.x.cells; (try simp only [List.getElem_toArray, List.getElem_cons_zero]); go_simp; (try with_reducible rfl)))
  try simp only [List.getElem_toArray, List.getElem_cons_zero, Act.put, List.setIfInBounds_toArray, List.set_cons_zero, List.set_cons_succ]
  (refine wpAnyH_take (i := 1) (oi := _) (v := ?_) rfl (by kernel_rfl) (by kernel_rfl) (by kernel_rfl) (fun _ _ _ h => h) (Or.inl ⟨by rfl, ?_⟩) (by assumption) ?_; rotate_left; (intro wS hSw; obtain ⟨x0, x1, x2, x3⟩ := hSw.x.cells; (try simp only [List.getElem_toArray, List.getElem_cons_succ, List.getElem_cons_zero]); go_simp; (try with_reducible rfl)))
  try simp only [List.getElem_toArray, List.getElem_cons_succ, List.getElem_cons_zero, Act.put, List.setIfInBounds_toArray, List.set_cons_zero, List.set_cons_succ]
  (refine wpAnyH_take (i := 2) (oi := _) (v := ?_) rfl (by kernel_rfl) (by kernel_rfl) (by kernel_rfl) (fun _ _ _ h => h) (Or.inl ⟨by rfl, ?_⟩) (by assumption) ?_; rotate_left; (intro wS hSw; obtain ⟨x0, x1, x2, x3⟩ := hSw.x.cells; (try simp only [List.getElem_toArray, List.getElem_cons_succ, List.getElem_cons_zero]); go_simp; (try with_reducible rfl)))
  try simp only [List.getElem_toArray, List.getElem_cons_succ, List.getElem_cons_zero, Act.put, List.setIfInBounds_toArray, List.set_cons_zero, List.set_cons_succ]
  (refine wpAnyH_take (i := 3) (oi := _) (v := ?_) rfl (by kernel_rfl) (by kernel_rfl) (by kernel_rfl) (fun _ _ _ h => h) (Or.inl ⟨by rfl, ?_⟩) (by assumption) ?_; rotate_left; (intro wS hSw; obtain ⟨x0, x1, x2, x3⟩ := hSw.x.cells; (try simp only [List.getElem_toArray, List.getElem_cons_succ, List.getElem_cons_zero]); go_simp; (try with_reducible rfl)))
  try simp only [List.getElem_toArray, List.getElem_cons_succ, List.getElem_cons_zero, Act.put, List.setIfInBounds_toArray, List.set_cons_zero, List.set_cons_succ]
  (refine wpAnyH_take (i := 4) (oi := _) (v := ?_) rfl (by kernel_rfl) (by kernel_rfl) (by kernel_rfl) (fun _ _ _ h => h) (Or.inl ⟨by rfl, ?_⟩) (by assumption) ?_; rotate_left; (intro wS hSw; obtain ⟨x0, x1, x2, x3⟩ := hSw.x.cells; (try simp only [List.getElem_toArray, List.getElem_cons_succ, List.getElem_cons_zero]); go_simp; (try with_reducible rfl)))
  try simp only [List.getElem_toArray, List.getElem_cons_succ, List.getElem_cons_zero, Act.put, List.setIfInBounds_toArray, List.set_cons_zero, List.set_cons_succ]
  (refine wpAnyH_take (i := 5) (oi := _) (v := ?_) rfl (by kernel_rfl) (by kernel_rfl) (by kernel_rfl) (fun _ _ _ h => h) (Or.inl ⟨by rfl, ?_⟩) (by assumption) ?_; rotate_left; (intro wS hSw; obtain ⟨x0, x1, x2, x3⟩ := hSw.x.cells; (try simp only [List.getElem_toArray, List.getElem_cons_succ, List.getElem_cons_zero]); go_simp; (try with_reducible rfl)))
  try simp only [List.getElem_toArray, List.getElem_cons_succ, List.getElem_cons_zero, Act.put, List.setIfInBounds_toArray, List.set_cons_zero, List.set_cons_succ]
  (refine wpAnyH_take (i := 7) (oi := _) (v := ?_) rfl (by kernel_rfl) (by kernel_rfl) (by kernel_rfl) (fun _ _ _ h => h) (Or.inl ⟨by rfl, ?_⟩) (by assumption) ?_; rotate_left; (intro wS hSw; obtain ⟨x0, x1, x2, x3⟩ := hSw.x.cells; (try simp only [List.getElem_toArray, List.getElem_cons_succ, List.getElem_cons_zero]); go_simp; (try with_reducible rfl)))
  try simp only [List.getElem_toArray, List.getElem_cons_succ, List.getElem_cons_zero, Act.put, List.setIfInBounds_toArray, List.set_cons_zero, List.set_cons_succ]
  (refine wpAnyH_take (i := 8) (oi := _) (v := ?_) rfl (by kernel_rfl) (by kernel_rfl) (by kernel_rfl) (fun _ _ _ h => h) (Or.inl ⟨by rfl, ?_⟩) (by assumption) ?_; rotate_left; (intro wS hSw; obtain ⟨x0, x1, x2, x3⟩ := hSw.x.cells; (try simp only [List.getElem_toArray, List.getElem_cons_succ, List.getElem_cons_zero]); go_simp; (try with_reducible rfl)))
  try simp only [List.getElem_toArray, List.getElem_cons_succ, List.getElem_cons_zero, Act.put, List.setIfInBounds_toArray, List.set_cons_zero, List.set_cons_succ]
  (refine wpAnyH_ready (rs := [6]) (by kernel_rfl) (by simp) ?_; refine AllReadyH.cons (o := _) rfl (fun K hK => ?_) AllReadyH.nil; (try simp only [List.getElem_toArray, List.getElem_cons_succ, List.getElem_cons_zero]); go_simp; go_at_call 59; refine (CI.out _ hHeld.b).mono ?_; rintro e wz ⟨rfl, hbz⟩; have hHeld := hHeld.next hbz; have HWZ := hid hHeld.b.size; clear hbz; go_wp2_with fail; refine hK.out _ _ hHeld (fun hHeld => ?_); clear hK K)
  try simp only [List.getElem_toArray, List.getElem_cons_succ, List.getElem_cons_zero, Act.put, List.setIfInBounds_toArray, List.set_cons_zero, List.set_cons_succ]
  (refine wpAnyH_ready (rs := [9]) (by kernel_rfl) (by simp) ?_; refine AllReadyH.cons (o := _) rfl (fun K hK => ?_) AllReadyH.nil; (try simp only [List.getElem_toArray, List.getElem_cons_succ, List.getElem_cons_zero]); go_simp; go_at_call 60; refine (CW.out _ hHeld.b).mono ?_; rintro e wz ⟨rfl, hbz⟩; have hHeld := hHeld.next hbz; have HWZ := hid hHeld.b.size; clear hbz; go_wp2_with fail; refine hK.out _ _ hHeld (fun hHeld => ?_); clear hK K)
  try simp only [List.getElem_toArray, List.getElem_cons_succ, List.getElem_cons_zero, Act.put, List.setIfInBounds_toArray, List.set_cons_zero, List.set_cons_succ]
  (refine wpAnyH_ready (rs := [10]) (by kernel_rfl) (by simp) ?_; refine AllReadyH.cons (o := _) rfl (fun K hK => ?_) AllReadyH.nil; (try simp only [List.getElem_toArray, List.getElem_cons_succ, List.getElem_cons_zero]); go_simp; go_wp2_with fail; refine hK.out _ _ (hHeld.next ((Below.refl _ _).alloc (Nat.le_refl _) _)) (fun hHeld => ?_); clear hK K)
  try simp only [List.getElem_toArray, List.getElem_cons_succ, List.getElem_cons_zero, Act.put, List.setIfInBounds_toArray, List.set_cons_zero, List.set_cons_succ]
  (refine wpAnyH_take (i := 11) (oi := _) (v := ?_) rfl (by kernel_rfl) (by kernel_rfl) (by kernel_rfl) (fun _ _ _ h => h) (Or.inl ⟨by rfl, ?_⟩) (by assumption) ?_; rotate_left; (intro wS hSw; obtain ⟨x0, x1, x2, x3⟩ := hSw.x.cells; (try simp only [List.getElem_toArray, List.getElem_cons_succ, List.getElem_cons_zero]); go_simp; (try with_reducible rfl)))
  try simp only [List.getElem_toArray, List.getElem_cons_succ, List.getElem_cons_zero, Act.put, List.setIfInBounds_toArray, List.set_cons_zero, List.set_cons_succ]
  refine wpAnyH_done (by kernel_rfl) ?_ _
  go_wp2_with fail
  go_ret
  refine ⟨⟨_, rfl, ?_⟩, hHeld.b⟩
  unfold S3.StrRow
  rw [hrow.out]
  exact World.ownsRow_lit wz #[.string X1, .string X2, .string X3, .string X4] 4 HWZ.out (by decide) rfl
set_option maxHeartbeats 16000000 in
set_option maxRecDepth 100000 in
theorem ewrite_any (A : Option Addr) (l : List ReqD) (c : Nat) (w : World) (h : ReqsIn w (fun k => k < w.heap.size) A l) (h16 : l.length ≤ 400) (hok : ∀ r ∈ l, reqM r = 0) (hE : S3.Env w) :
    Calls Tryz.prog 34 #[.slice A l.length c, .int .i64 0, .func (.func 35) #[] #[]] w (WriteOut (l.map rowQ, 0) w) := by
  have eg : ∀ args w, (callFunc 35 args).run Tryz.prog w = .ok (.enter 35 args) w := enters_of Tryz.func35 (by kernel_rfl) rfl
  obtain ⟨iS, hiS, hzS, hsS, hbS⟩ := info_parts infoStrs7
  unfold WriteOut
  have HH := hid (fun (w' : World) (hb : Below w.heap.size w w') => h.below hb)
  have HE := hid (fun (w' : World) (hb : Below w.heap.size w w') => hE.below hb)
  have HOK := hid hok
  clear h hE hok
  go_enter Tryz.func34, Tryz.ntmps34
  go_wp2
  go_loopw [8, 16] (fun v iv wr => ∃ (i : Nat) (L : List RowA), iv = .int .i64 (i : Int) ∧ i ≤ l.length ∧ Hid (L.map (·.1) = (l.take i).map rowQ) ∧ Hid (RowsRow wr w.heap.size v L) ∧ Hid (Below w.heap.size w wr)) (fun _ iv _ => l.length - (RowKit.intOf iv).toNat)
  case atStart => exact ⟨0, [], rfl, Nat.zero_le _, hid rfl, hid (RowsRow.nil _ _), hid (Below.refl _ _)⟩
  case round =>
    obtain ⟨i, L, rfl, hi, hL, hrow, hB⟩ := hrel
    obtain ⟨Ar, cr, hvr, _⟩ := hrow.out.rowsIn
    subst hvr
    have hLl : L.length = i := by
      have := congrArg List.length hL.out
      rw [List.length_map, List.length_map, List.length_take] at this
      omega
    have HLL := hid hLl
    clear hLl
    by_cases hlt : i < l.length
    · have hltz : (i : Int) < (l.length : Int) := by omega
      obtain ⟨fb, fo, q, rfl, hfb, hri, y0, y1, y2, y3⟩ := (HH.out _ hB.out).at_ hlt
      have hroom := HOK.out _ (List.getElem_mem hlt)
      have hst : (l.take (i + 1)).map rowQ = L.map (·.1) ++ [rowQ l[i]] := by rw [hL.out, List.take_succ_eq_append_getElem hlt, List.map_append]; rfl
      have cW : ∀ W, Below wr.heap.size wr W → Calls Tryz.prog 35 #[reqV l[i] q] W (S3.RowOut (rowQ l[i]) W) :=
        fun W hb => qfields_any l[i] q W ((hri.below (hb.mono hB.out.size)).mono (fun k hk => Nat.lt_of_lt_of_le hk (Nat.le_trans hB.out.size hb.size))) hroom (check_tail (reqM_all hroom).2.2.2.2.2).1 (HE.out W (hB.out.trans (hb.mono hB.out.size)))
      obtain ⟨RW, hRW⟩ : ∃ r, rowQ l[i] = r := ⟨_, rfl⟩
      rw [hRW] at cW hst
      unfold reqV S3.RowOut at cW
      obtain ⟨X1, hX1⟩ : ∃ X, ba l[i].s = X := ⟨_, rfl⟩
      obtain ⟨X2, hX2⟩ : ∃ X, ba l[i].c = X := ⟨_, rfl⟩
      obtain ⟨PP, hPP⟩ : ∃ X, l[i].p = X := ⟨_, rfl⟩
      obtain ⟨T1, hT1⟩ : ∃ F, l[i].l.length = F := ⟨_, rfl⟩
      rw [hX1] at y0 cW
      rw [hX2] at y1 cW
      rw [hPP] at y2 cW
      rw [hT1] at y3 cW
      have hb1 := (Below.refl wr.heap.size wr).alloc (Nat.le_refl _) (.cells #[.string X1, .string X2, .int .i64 PP, .slice q.1 T1 q.2] 61)
      have hx1 := Box4.new wr (.string X1) (.string X2) (.int .i64 PP) (.slice q.1 T1 q.2)
      have CW := hid (cW _ hb1)
      have HB1 := hid hb1
      have HX1 := hid hx1
      have HST := hid hst
      clear hRW hX1 hX2 hPP hT1 hb1 hx1 cW hst hri hroom hfb
      go_wp2_with fail
      generalize wr.alloc (.cells #[.string X1, .string X2, .int .i64 PP, .slice q.1 T1 q.2] 61) = w1 at HB1 HX1 CW ⊢
      obtain ⟨z0, z1, z2, z3⟩ := HX1.out.cells
      go_wp2_with fail
      refine CW.out.mono ?_
      rintro e w2 ⟨⟨vi, rfl, hrowi⟩, hb2⟩
      obtain ⟨Ai, ci, rfl, hl5, hc5, _⟩ := hrowi.strsIn
      have HB2 := hid hb2
      have HRowi := hid hrowi
      have hrow2 : w2.ownsRow w.heap.size 40 1 (.slice Ar L.length cr) L.length (L.map rowV) := row_under (row_under hrow.out.1 HB1.out) HB2.out
      have HRow2 := hid hrow2
      have HC3 : Hid (L.length + 1 ≤ maxLen) := by unfold maxLen; exact hid (by have := HLL.out; omega)
      have HC4 : Hid ((L.length + 1) * 24 ≤ 140737488355328) := hid (by have := HLL.out; omega)
      have HSZ : Hid (w.heap.size ≤ w2.heap.size) := hid (by have := hB.out.size; have := HB1.out.size; have := HB2.out.size; omega)
      have HC5 : Hid (∀ o : Obj, w.heap.size ≤ (w2.alloc o).heap.size) := hid (fun o => by have := HSZ.out; simp; omega)
      clear hb2 hrowi hrow2 y0 y1 y2 y3 hl5 hc5 z0 z1 z2 z3
      go_wp2_with (at_builtin; refine wpList_append_own_at _ rfl _ _ 28 rfl w.heap.size 40 iS (.slice none 0 0) 1 24 Tryz.underlying28 hiS hzS hsS hbS rfl (by decide) _ L.length (L.map rowV) rfl (World.ownsRow.alloc HRow2.out _) ⟨w2.heap.size, 0, none⟩ 1 1 [.slice Ai RW.length ci] rfl rfl (one_new _ _ _) (one_slice _ _ _) HC3.out HC4.out (HC5.out _) ?_)
      intro v' w4 hown' hgrow _ hat
      have hsn := RowsRow.snoc hrow.out (by have := hB.out.size; have := HB1.out.size; omega) HB1.out HB2.out HRowi.out ((Below.refl w2.heap.size w2).alloc (Nat.le_refl _) _) hown' hgrow (hat.imp id (fun h => h.trans (by simp)))
      have hg' := grownBy_of_alloc hgrow
      have hb24 : Below w.heap.size w2 w4 := (Below.refl _ w2).grown hg' HSZ.out (fun k hk => (World.ownsRow.lt HRow2.out k hk).1)
      have HB4 := hid (((hB.out.trans (HB1.out.mono hB.out.size)).trans (HB2.out.mono (by have := hB.out.size; have := HB1.out.size; omega))).trans hb24)
      have HSN := hid hsn
      have HL2 : Hid ((L ++ [(RW, Ai, ci)]).map (·.1) = (l.take (i + 1)).map rowQ) := hid (by rw [HST.out, List.map_append]; rfl)
      clear hb24 hg' hgrow hown' hsn hat
      go_wp2_with fail
      go_roundw
      case rel => exact ⟨i + 1, L ++ [(RW, Ai, ci)], by go_num, by omega, HL2, HSN, HB4⟩
      case measure => simp [RowKit.intOf]; omega
    · have hltz : ¬ (i : Int) < (l.length : Int) := by omega
      have hL2 : Hid (L.map (·.1) = l.map rowQ) := hid (by rw [hL.out, List.take_of_length_le (by omega)])
      go_wp2
      go_ret2
      exact ⟨⟨_, L, hL2.out, rfl, hrow.out⟩, hB.out⟩
set_option maxHeartbeats 4000000 in
theorem ewriteE_any (A : Option Addr) (n c : Nat) (R : Int) (hR : R ≠ 0) (f : Value) (w : World) :
    Calls Tryz.prog 34 #[.slice A n c, .int .i64 R, f] w (WriteOut ([], R) w) := by
  unfold WriteOut
  have hR1 : (R != 0) = true := by simpa using hR
  have hR2 : (R == 0) = false := by simpa using hR
  go_enter Tryz.func34, Tryz.ntmps34
  go_wp2
  go_ret2
  exact ⟨⟨_, [], rfl, rfl, RowsRow.nil _ _⟩, Below.refl _ _⟩
set_option maxHeartbeats 8000000 in
theorem qwrite_any (A : Option Addr) (l : List ReqD) (c : Nat) (w : World) (h : ReqsIn w (fun k => k < w.heap.size) A l) (hE : S3.Env w) :
    Calls Tryz.prog 8 #[.slice A l.length c] w (WriteOut (writeQ l) w) := by
  have cV := qvalid_any A l c w h hE
  have cW : ∀ W, Below w.heap.size w W → Calls Tryz.prog 34 #[.slice A l.length c, .int .i64 (validQ l), .func (.func 35) #[] #[]] W (WriteOut (writeQ l) W) := fun W hb => by
    unfold writeQ
    by_cases h0 : validQ l = 0
    · rw [if_neg (by simpa using h0), h0]
      exact ewrite_any A l c W ((h.below hb).mono (fun k hk => Nat.lt_of_lt_of_le hk hb.size)) (validQ_ok h0).1 (validQ_ok h0).2 (hE.below hb)
    · rw [if_pos h0]
      exact ewriteE_any A l.length c (validQ l) h0 _ W
  unfold Says at cV
  unfold WriteOut at cW ⊢
  obtain ⟨R, hR⟩ : ∃ R, validQ l = R := ⟨_, rfl⟩
  obtain ⟨⟨o1, o2⟩, hO⟩ : ∃ R, writeQ l = R := ⟨_, rfl⟩
  rw [hR] at cV cW
  rw [hO] at cW ⊢
  obtain ⟨N, hN⟩ : ∃ N, l.length = N := ⟨_, rfl⟩
  rw [hN] at cV cW ⊢
  have CV := hid cV
  have CW := hid cW
  clear cV cW hR hO hN h hE
  go_enter Tryz.func8, Tryz.ntmps8
  go_wp2_with fail
  refine CV.out.mono ?_
  rintro e w1 ⟨rfl, hb1⟩
  have HB1 := hid hb1
  clear hb1
  go_wp2_with fail
  refine (CW.out _ HB1.out).mono ?_
  rintro e w2 ⟨⟨v, L, hL, rfl, hrow⟩, hb2⟩
  have HR : Hid (∃ v' L', L'.map (·.1) = o1 ∧ Ending.returned (.tuple #[v, .int .i64 o2]) = .returned (.tuple #[v', .int .i64 o2]) ∧ RowsRow w2 w.heap.size v' L') := hid ⟨v, L, hL, rfl, hrow.low HB1.out.size⟩
  have HB2 := hid (HB1.out.trans (hb2.mono HB1.out.size))
  clear hL hrow hb2
  go_wp2
  go_ret2
  exact ⟨HR.out, HB2.out⟩
end Go.Proofs.YtlgmanbilaminaaGreatDoor.S12
namespace Go.Proofs.YtlgmanbilaminaaGreatDoor.S11
open Go Go.Proofs Go.RowKit Go.Lib Go.Proofs.YtlgmanbilaminaaGreatDoor
theorem own_free {w : World} {B : Nat} {e : TypeId} {size n cap g : Nat} {xs : List Value} (h : w.ownsRow B e size (.slice (some ⟨g, 0, none⟩) n cap) n xs) (j : Nat) : w.frozen? ⟨g, j, none⟩ = false := by
  rcases h.2 with ⟨h2, _⟩ | ⟨g', cap', cur, hv, hB, hg, _⟩
  · injection h2 with h2; injection h2
  · injection hv with hv _ hc
    injection hv with hv
    injection hv with hv
    subst hv
    simp [World.frozen?, hg]
def RowsF (w : World) (B : Nat) (v : Value) (L : List RowA) : Prop := RowsRow w B v L ∧ ∀ p ∈ L, p.1 ≠ [] → ∀ b off, p.2.1 = some ⟨b, off, none⟩ → ∀ j, w.frozen? ⟨b, j, none⟩ = false
theorem RowsF.nil (w : World) (B : Nat) : RowsF w B (.slice none 0 0) [] := ⟨RowsRow.nil _ _, fun p hp => by simp at hp⟩
theorem RowsF.at_ {w : World} {B : Nat} {v : Value} {L : List RowA} (h : RowsF w B v L) {p : RowA} (hp : p ∈ L) (hne : p.1 ≠ []) : ∃ b off, p.2.1 = some ⟨b, off, none⟩ ∧ (B ≤ b ∧ b < w.heap.size ∧ v.ownBlock ≠ some b) ∧ (∀ j, w.frozen? ⟨b, j, none⟩ = false) ∧ ∀ (j : Nat) (s : Str), p.1[j]? = some s → w.cell? ⟨b, off + j, none⟩ = some (.string (ba s)) := by
  rcases (h.1.2 p hp).1 with h0 | ⟨b, off, hA, hP, hc⟩
  · exact absurd h0 hne
  · exact ⟨b, off, hA, hP, h.2 p hp hne b off hA, hc⟩
theorem RowsF.snoc {w w1 w2 w3 w4 : World} {B : Nat} {v v' : Value} {L : List RowA} {l : List Str} {A : Option Addr} {c : Nat} (h : RowsF w B v L) (hBw : B ≤ w1.heap.size) (h1 : Below w.heap.size w w1) (hb : Below w1.heap.size w1 w2) (hr : S3.StrRow w2 w1.heap.size (.slice A l.length c) l)
    (h3 : Below w2.heap.size w2 w3) (hown' : w4.ownsRow B 40 1 v' (L.length + 1) (L.map rowV ++ [.slice A l.length c])) (hg : w3.grownBy w4 v.ownBlock) (hat : v'.ownBlock = v.ownBlock ∨ v'.ownBlock = some w3.heap.size) : RowsF w4 B v' (L ++ [(l, A, c)]) := by
  have hs1 := h1.size
  have hs2 := hb.size
  have hs3 := h3.size
  have hvl : ∀ g, v.ownBlock = some g → g < w.heap.size := fun g hg => (World.ownsRow.lt h.1.1 g hg).2
  refine ⟨RowsRow.snoc h.1 hBw h1 hb hr h3 hown' hg hat, fun p hp hne b off hA j => ?_⟩
  rcases List.mem_append.1 hp with hp | hp
  · obtain ⟨b', off', hA', ⟨k1, k2, k3⟩, hf, _⟩ := h.at_ hp hne
    rw [hA] at hA'
    injection hA' with hA'
    injection hA' with e1 e2
    subst e1
    have e : w4.heap[b]? = w.heap[b]? := by rw [hg.block b (by omega) (fun e => k3 e.symm), h3.block b (by omega), hb.block b (by omega), h1.block b k2]
    exact (World.frozen?_of_block (a := ⟨b, j, none⟩) e).trans (hf j)
  · rw [List.mem_singleton] at hp
    subst hp
    have hl0 : 0 < l.length := List.length_pos_iff.2 hne
    obtain ⟨g, cap, hv, hgB, hgs⟩ := World.ownsRow.form hr hl0
    dsimp only at hA
    subst hA
    injection hv with hv _ hc
    injection hv with hv
    injection hv with e1 e2
    subst e1 e2 hc
    have hf := own_free hr j
    have e : w4.heap[b]? = w2.heap[b]? := by rw [hg.block b (by omega) (fun e => by have := hvl b e.symm; omega), h3.block b (by omega)]
    exact (World.frozen?_of_block (a := ⟨b, j, none⟩) e).trans hf
def WriteOutF (o : List (List Str) × Int) (w : World) (e : Ending) (w' : World) : Prop := (∃ v L, L.map (·.1) = o.1 ∧ e = .returned (.tuple #[v, .int .i64 o.2]) ∧ RowsF w' w.heap.size v L) ∧ Below w.heap.size w w'
end Go.Proofs.YtlgmanbilaminaaGreatDoor.S11
