/-
  The code's reader of layer 2: a record. Conditions: the reader lies in memory; its text has at most 65536 bytes; the problems are a row of the call's own.
-/
import Derived.Test.YtcpkefjijinhiaaDoorCField
import Derived.Test.YtcpkefjijinhiaaDoorCFind
set_option linter.unusedVariables false
namespace Go.Proofs.YtcpkefjijinhiaaDoor
open Go Go.Proofs Go.RowKit Go.Lib

theorem lineS_end : ∀ s : Str, endL (s.drop (lineS s).length) = true
  | [] => rfl
  | c :: r => by
    cases h : endL (c :: r) with
    | true => rw [(lineS_nil_iff _).2 h]; exact h
    | false =>
      rw [lineS_cons c r h, List.length_cons, List.drop_succ_cons]
      exact lineS_end r
theorem plain_delim (D : UInt8) (s : Str) (h : endL (s.drop (bef D (lineS s)).length) = false) : (s.drop (bef D (lineS s)).length).head? = some D := by
  cases hh : has D (lineS s) with
  | false =>
    rw [(bef_miss D _ hh).1, lineS_end] at h
    simp at h
  | true =>
    have h1 := bef_at D _ hh
    rw [List.head?_drop]
    have h2 := lineS_take s
    rw [h2] at h1
    rw [List.getElem?_take] at h1
    split at h1
    · rw [← h2] at h1
      exact h1
    · simp at h1
theorem field_delim (L : Str) (D Q : UInt8) (a x : Nat) (f : Fld) (h : fieldP L D Q a = .ok f x) (he : endL (L.drop x) = false) : (L.drop x).head? = some D := by
  unfold fieldP at h
  split at h
  · unfold quotP at h
    split at h
    · simp at h
    · split at h
      · rename_i hc
        injection h with _ h
        subst h
        rcases hc with hc | hc
        · rw [hc] at he; simp at he
        · exact hc
      · simp at h
  · unfold plainP at h
    split at h
    · simp at h
    · injection h with _ h
      subst h
      have hd := plain_delim D (L.drop a)
      rw [List.drop_drop] at hd
      exact hd he
theorem row_mono {w : World} {B B' e z n : Nat} {v : Value} {xs : List Value} (h : w.ownsRow B e z v n xs) (hB : B' ≤ B) : w.ownsRow B' e z v n xs := by
  obtain ⟨h1, h2⟩ := h
  refine ⟨h1, ?_⟩
  rcases h2 with h2 | ⟨g, cap, cur, hv, hg, r⟩
  · exact .inl h2
  · exact .inr ⟨g, cap, cur, hv, by omega, r⟩
/-- What a record comes to. -/
def RecOutC (g B : Nat) (S : ByteArray) (D Q : UInt8) (ps : List Prob) (l : Int) (w : World) (r : RRes) (e : Ending) (w' : World) : Prop :=
  CKept B g w w' ∧ ∃ pv', CRd w' g S D Q r.place pv' ∧ match r with
  | .ok fs x => (∃ fv, e = .returned (.tuple #[.agg #[.int .i64 l, fv], .bool true]) ∧ FldRow w' w.heap.size fv fs) ∧ ProbRow w' B pv' ps
  | .bad p x => e = .returned (.tuple #[.agg #[.int .i64 0, .slice none 0 0], .bool false]) ∧ ProbRow w' B pv' (ps ++ [p])
theorem row_ckept {w w' : World} {B B' g e z n : Nat} {v : Value} {xs : List Value} (h : w.ownsRow B' e z v n xs) (hK : CKept B g w w') (he : e ≠ 77) (hg : v.ownBlock ≠ some g) : w'.ownsRow B' e z v n xs := by
  obtain ⟨h1, h2⟩ := h
  refine ⟨h1, ?_⟩
  rcases h2 with h2 | ⟨k, cap, cur, hk, hb, hh, r⟩
  · exact .inl h2
  · refine .inr ⟨k, cap, cur, hk, hb, (hK.others k _ _ _ hh (fun e => hg (by rw [hk, e]; rfl)) he).trans hh, r⟩
theorem row_ne {w : World} {B e z n g : Nat} {v : Value} {xs : List Value} (h : w.ownsRow B e z v n xs) {cs : Array Value} {T : TypeId} {fz : Nat × Nat} (hb : w.heap[g]? = some (.cells cs T fz)) (hT : T ≠ e) : v.ownBlock ≠ some g := by
  intro e'
  obtain ⟨c, hc⟩ := row_kind h g e'
  rw [hc] at hb
  injection hb with hb
  injection hb with _ ht _
  exact hT ht.symm
theorem field_cases {g B : Nat} {S : ByteArray} {D Q : UInt8} {ps : List Prob} {w w' : World} {R : FRes} {e : Ending} (h : FieldOutC g B S D Q ps w R e w') :
    CKept B g w w' ∧ ∃ pv' t c q ok, e = .returned (.tuple #[.agg #[.string t, .int .i64 c, .bool q], .bool ok]) ∧ CRd w' g S D Q R.place pv' ∧
      ((∃ f x, R = .ok f x ∧ t = ⟨f.text.toArray⟩ ∧ c = f.col ∧ q = f.quoted ∧ ok = true ∧ ProbRow w' B pv' ps) ∨ (∃ p x, R = .bad p x ∧ ok = false ∧ ProbRow w' B pv' (ps ++ [p]))) := by
  obtain ⟨hK, pv', hC, hm⟩ := h
  cases R with
  | ok f x => exact ⟨hK, pv', _, _, _, true, hm.1, hC, .inl ⟨f, x, rfl, rfl, rfl, rfl, rfl, hm.2⟩⟩
  | bad p x =>
    obtain ⟨⟨t, c, q, rfl⟩, hP⟩ := hm
    exact ⟨hK, pv', t, c, q, false, rfl, hC, .inr ⟨p, x, rfl, rfl, hP⟩⟩
theorem fld_one (t : ByteArray) (c : Int) (q : Bool) : ∀ u ∈ [Value.string t, .int .i64 c, .bool q], u.oneCell' = true := by
  intro u hu
  simp at hu
  rcases hu with rfl | rfl | rfl <;> rfl

theorem fin48 {w2 w5 : World} {k2 : Nat} {cs : Array Value} (p2 : w2.heap[k2]? = some (.cells cs 48 (0, 0))) (hs : ∃ a b, cs = #[a, b]) {x y : Value}
    (e : w5 = (w2.setCell ⟨k2, 0, none⟩ x).setCell ⟨k2, 1, none⟩ y) : w5.heap[k2]? = some (.cells #[x, y] 48 (0, 0)) := by
  obtain ⟨a, b, rfl⟩ := hs
  subst e
  rw [heap_setCell_same _ k2 1 _ _ _ (heap_setCell_same _ k2 0 _ _ _ p2)]
  rfl
theorem fin_bad {g B k2 : Nat} {S : ByteArray} {D Q : UInt8} {ps : List Prob} {l : Int} {w w2 w5 : World} {pv2 : Value} {p : Prob} {x : Nat} (hK : CKept B g w w2) (hB : B ≤ w.heap.size) (hC : CRd w2 g S D Q x pv2) (hP : ProbRow w2 B pv2 (ps ++ [p])) (h2 : g ≠ k2) (hg2 : w.heap.size ≤ k2)
    {cs : Array Value} (p2 : w2.heap[k2]? = some (.cells cs 48 (0, 0))) {u v : Value} (e : w5 = (w2.setCell ⟨k2, 0, none⟩ u).setCell ⟨k2, 1, none⟩ v) :
    RecOutC g B S D Q ps l w (.bad p x) (.returned (.tuple #[.agg #[.int .i64 0, .slice none 0 0], .bool false])) w5 := by
  subst e
  exact ⟨(hK.own hg2 hB _).own hg2 hB _, pv2, (hC.own h2 _).own h2 _, rfl, (Rolled.set k2 1 _ v).row ((Rolled.set k2 0 w2 u).row hP (prob_ne hP p2 (by decide))) (prob_ne hP p2 (by decide))⟩
theorem RecOutC.under {g B : Nat} {S : ByteArray} {D Q : UInt8} {ps : List Prob} {l : Int} {w w5 w6 : World} {p : Prob} {x : Nat} {e : Ending} (h : RecOutC g B S D Q ps l w (.bad p x) e w5) (hb : Below w5.heap.size w5 w6) (hB : B ≤ w.heap.size) : RecOutC g B S D Q ps l w (.bad p x) e w6 := by
  obtain ⟨hK, pv', hC, he, hP⟩ := h
  exact ⟨hK.trans (CKept.below hb (Nat.le_trans hB hK.size)), pv', hC.below hb, he, row_under hP hb⟩
/-- What a list of fields that grows leaves alone. -/
theorem grown_block {w2 wq : World} {o o' : Obj} {fv : Value} {B n : Nat} {xs : List Value} (hF : w2.ownsRow B 50 3 fv n xs) (hg : ((w2.alloc o).alloc o').grownBy wq fv.ownBlock) {j : Nat} {c : Array Value} {T : TypeId} {fz : Nat × Nat} (hj : w2.heap[j]? = some (.cells c T fz)) (hT : T ≠ 50) :
    wq.heap[j]? = some (.cells c T fz) := by
  have hlt := (Array.getElem?_eq_some_iff.1 hj).1
  have h1 : (w2.alloc o).heap.size = w2.heap.size + 1 := by simp
  have h2 : ((w2.alloc o).alloc o').heap.size = w2.heap.size + 1 + 1 := by rw [show ((w2.alloc o).alloc o').heap.size = (w2.alloc o).heap.size + 1 by simp, h1]
  exact (hg.block j (by rw [h2]; omega) (fun e => row_ne hF hj hT e.symm)).trans ((Below.heap_alloc _ _ _ (by rw [h1]; omega)).trans ((Below.heap_alloc _ _ _ hlt).trans hj))
theorem grown_below {w2 wq : World} {o o' : Obj} {fv : Value} {B n : Nat} {xs : List Value} (hF : w2.ownsRow B 50 3 fv n xs) (hg : ((w2.alloc o).alloc o').grownBy wq fv.ownBlock) (hB : B ≤ w2.heap.size) : Below B w2 wq := by
  have h1 : (w2.alloc o).heap.size = w2.heap.size + 1 := by simp
  have h2 : ((w2.alloc o).alloc o').heap.size = w2.heap.size + 1 + 1 := by rw [show ((w2.alloc o).alloc o').heap.size = (w2.alloc o).heap.size + 1 by simp, h1]
  exact (((Below.refl B w2).alloc hB _).alloc (by rw [h1]; omega) _).grown hg (by rw [h2]; omega) (fun k hk => (World.ownsRow.lt hF k hk).1)
theorem fldCells_snoc (fs : List Fld) (f : Fld) : fldCells (fs ++ [f]) = fldCells fs ++ [.string ⟨f.text.toArray⟩, .int .i64 f.col, .bool f.quoted] := by
  rw [fldCells_app]
  rfl

set_option maxHeartbeats 4000000 in
set_option maxRecDepth 100000 in
theorem rec_any (g a B : Nat) (S : ByteArray) (D Q : UInt8) (pv : Value) (ps : List Prob) (w : World) (h : CRd w g S D Q a pv) (hp : ProbRow w B pv ps) (hps : ps.length ≤ 1000000) (hBw : B ≤ w.heap.size) :
    Calls Tryd.prog 42 #[.pointer (some ⟨g, 0, none⟩)] w (RecOutC g B S D Q ps (lineOf (lst S) a) w (recP (lst S) D Q 12 [] a)) := by
  have hgl := (Array.getElem?_eq_some_iff.1 h.cells).1
  have c1 := h.c1
  have H := hid h
  have HP := hid hp
  have HBW := hid hBw
  have HPS := hid hps
  obtain ⟨R, hR⟩ : ∃ R, recP (lst S) D Q 12 [] a = R := ⟨_, rfl⟩
  rw [hR]
  have HR := hid hR
  obtain ⟨ln, hln⟩ : ∃ n : Int, (lineOf (lst S) a : Int) = n := ⟨_, rfl⟩
  rw [hln] at c1 ⊢
  have hne0 : w.heap.size ≠ g := by omega
  have hne0' := hne0.symm
  clear h hp hBw hps hR hln
  go_enter Tryd.func42, Tryd.ntmps42
  go_wp2_with fail
  obtain ⟨w1, hw1⟩ : ∃ w1, w1 = (w.alloc (.cells #[.int .i64 0, .slice none 0 0] 48)).alloc (.cells #[.int .i64 ln, .slice none 0 0] 48) := ⟨_, rfl⟩
  rw [← hw1]
  have hs1 : (w.alloc (.cells #[.int .i64 0, .slice none 0 0] 48)).heap.size = w.heap.size + 1 := by simp
  have hb1 : Below w.heap.size w w1 := by
    rw [hw1]
    exact (Below.alloc (Below.refl w.heap.size w) (Nat.le_refl _) _).alloc (by rw [hs1]; omega) _
  have q2 : w1.heap[w.heap.size]? = some (.cells #[.int .i64 0, .slice none 0 0] 48 (0, 0)) := by
    rw [hw1, Below.heap_alloc _ _ _ (by rw [hs1]; omega)]
    exact heap_alloc_new w _
  have q4 : w1.heap[w.heap.size + 1]? = some (.cells #[.int .i64 ln, .slice none 0 0] 48 (0, 0)) := by
    rw [hw1, ← hs1]
    exact heap_alloc_new _ _
  have hne4 : w.heap.size + 1 ≠ g := by omega
  clear hw1 hs1 c1
  have hk24 : w.heap.size ≠ w.heap.size + 1 := by omega
  have hge4 : w.heap.size ≤ w.heap.size + 1 := by omega
  have hge2 : w.heap.size ≤ w.heap.size := Nat.le_refl _
  clear hne0'
  generalize w.heap.size + 1 = k4 at hne4 q4 hk24 hge4 ⊢
  generalize hk2 : w.heap.size = k2 at hne0 q2 hk24 ⊢
  have hge2' : w.heap.size ≤ k2 := by omega
  clear hk2 hge2
  have hne2 := hne0
  obtain ⟨i50, hi50, hz50, hsi50, hby50⟩ := info_parts infoFld
  have Q2 := hid q2
  have Q4 := hid q4
  have HB1 := hid hb1
  have HC1 := hid (H.out.below hb1)
  have HP1 := hid (row_under HP.out hb1)
  clear q2 q4 hb1 H HP
  go_loopg [3] 14 (fun gk s3 wx => s3 = .bool false ∧ ∃ (a' : Nat) (fs : List Fld) (fv pv : Value), Hid (CRd wx g S D Q a' pv) ∧ Hid (ProbRow wx B pv ps) ∧ Hid (wx.heap[k2]? = some (.cells #[.int .i64 0, .slice none 0 0] 48 (0, 0))) ∧ Hid (wx.heap[k4]? = some (.cells #[.int .i64 ln, fv] 48 (0, 0))) ∧ Hid (FldRow wx w.heap.size fv fs) ∧ fs.length ≤ 12 ∧ Hid (recP (lst S) D Q (12 - fs.length) fs a' = R) ∧ Hid (CKept B g w wx) ∧ 12 - fs.length < gk)
  case atStart => exact ⟨rfl, a, [], .slice none 0 0, pv, HC1, HP1, Q2, Q4, hid (World.ownsRow_nil _ _ _ _), by simp, HR, hid (CKept.below HB1.out HBW.out), by simp⟩
  case round =>
    obtain ⟨rfl, a', fs, fv, pv', hC, hP, q2, q4, hF, hl12, hE, hK, hgk⟩ := hrel
    obtain ⟨g', rfl⟩ : ∃ g', gk = g' + 1 := ⟨gk - 1, by omega⟩
    clear Q2 Q4 HB1 HC1 HP1 HR
    have hBx : B ≤ wr.heap.size := Nat.le_trans HBW.out hK.out.size
    obtain ⟨Af, cf, hfv⟩ := row_slice hF.out
    have m1 := cell_at q4.out 1
    simp only [List.getElem?_toArray, List.getElem?_cons_zero, List.getElem?_cons_succ] at m1
    rw [hfv] at m1
    have HFV := hid hfv
    clear hfv
    by_cases hfull : fs.length = 12
    · have heq : ((fs.length : Int) == 12) = true := by simp [hfull]
      have hRR : Hid (R = .bad ⟨lineOf (lst S) a', colP (lst S) a', 9⟩ (nxt (lst S) a')) := by
        have := hE.out
        rw [hfull] at this
        exact hid this.symm
      go_wp2_with fail
      refine (giveUp_any g a' B S D Q pv' ps 9 wr hC.out hP.out HPS.out hBx).mono ?_
      rintro e w2 ⟨rfl, pv2, hC2, hP2, hK2⟩
      have p2 := (hK2.others k2 _ 48 _ q2.out hne2 (by decide)).trans q2.out
      have n0 := cell_at p2 0
      have n1 := cell_at p2 1
      have n0f := free_at p2 0
      have n1f := free_at p2 1
      simp only [List.getElem?_toArray, List.getElem?_cons_zero, List.getElem?_cons_succ] at n0 n1
      have P2 := hid p2
      have HC2 := hid hC2
      have HP2 := hid hP2
      have HK2 := hid (hK.out.trans hK2)
      clear p2 hC2 hP2 hK2
      go_wp2
      obtain ⟨w5, hw5⟩ : ∃ w5, w5 = (w2.setCell ⟨k2, 0, none⟩ (.int .i64 0)).setCell ⟨k2, 1, none⟩ (.slice none 0 0) := ⟨_, rfl⟩
      rw [← hw5]
      refine bodyPost_ret (v := .tuple #[.agg #[.int .i64 0, .slice none 0 0], .bool false]) (results_ct rfl _ _ _ ⟨k2, 0, none⟩ _ _ rfl rfl (load48 (fin48 P2.out ⟨_, _, rfl⟩ hw5))) rfl ?_
      rw [hRR.out]
      exact fin_bad HK2.out HBW.out HC2.out HP2.out hne2.symm hge2' P2.out hw5
    · have heq : ((fs.length : Int) == 12) = false := by simp; omega
      obtain ⟨m, hm⟩ : ∃ m, 12 - fs.length = m + 1 := ⟨12 - fs.length - 1, by omega⟩
      have hE2 := hE.out
      rw [hm] at hE2
      have HE2 := hid hE2
      clear hE2 hE
      go_wp2_with fail
      refine (field_any g a' B S D Q pv' ps wr hC.out hP.out HPS.out hBx).mono ?_
      intro e w2 hO
      obtain ⟨hK2, pv2, t, c, q, ok, rfl, hC2, hmm⟩ := field_cases hO
      have p2 := (hK2.others k2 _ 48 _ q2.out hne2 (by decide)).trans q2.out
      have p4 := (hK2.others k4 _ 48 _ q4.out hne4 (by decide)).trans q4.out
      have hF2 : FldRow w2 w.heap.size fv fs := row_ckept hF.out hK2 (by decide) (row_ne hF.out hC.out.cells (by decide))
      have hs2 := hK2.size
      have hlk2 := (Array.getElem?_eq_some_iff.1 p2).1
      have hlk4 := (Array.getElem?_eq_some_iff.1 p4).1
      have ne5 : w2.heap.size ≠ k2 := by omega
      have ne5' := ne5.symm
      have ne6 : w2.heap.size ≠ k4 := by omega
      have ne6' := ne6.symm
      have n0 := cell_at p2 0
      have n1 := cell_at p2 1
      have n0f := free_at p2 0
      have n1f := free_at p2 1
      have m0 := cell_at p4 0
      have m1' := cell_at p4 1
      have m1f := free_at p4 1
      simp only [List.getElem?_toArray, List.getElem?_cons_zero, List.getElem?_cons_succ] at n0 n1 m0 m1'
      rw [HFV.out] at m1'
      have P2 := hid p2
      have P4 := hid p4
      have HC2 := hid hC2
      have HK2 := hid (hK.out.trans hK2)
      have HF2 := hid hF2
      clear hO p2 p4 hC2 hK2 hF2 hs2 hC hP q2 q4 hF hK m1
      rcases hmm with ⟨f, x, hf, rfl, rfl, rfl, rfl, hP2⟩ | ⟨p, x, hf, rfl, hP2⟩
      · have HP2 := hid hP2
        have HFX := hid hf
        clear hP2 hf
        have HC3 : Hid (fs.length + 1 ≤ maxLen) := by unfold maxLen; exact hid (by omega)
        have HC4 : Hid ((fs.length + 1) * 32 ≤ 140737488355328) := hid (by omega)
        have hw2s : w.heap.size ≤ w2.heap.size := HK2.out.size
        have HC5 : Hid (∀ o o' : Obj, w.heap.size ≤ ((w2.alloc o).alloc o').heap.size) := hid (fun o o' => by simp; omega)
        have HS1 : Hid (∀ o : Obj, (w2.alloc o).heap.size = w2.heap.size + 1) := hid (fun o => by simp)
        go_wp2_with (at_builtin; refine wpList_append_own _ rfl _ _ 46 rfl w.heap.size 50 i50 (.agg #[.string ⟨#[]⟩, .int .i64 0, .bool false]) 3 32 Tryd.underlying46 hi50 hz50 hsi50 hby50 rfl (by decide) (.slice Af fs.length cf) fs.length (fldCells fs) rfl (World.ownsRow.alloc (World.ownsRow.alloc (by rw [← HFV.out]; exact HF2.out) _) _) ⟨w2.heap.size + 1, 0, none⟩ 1 1 [.string ⟨f.text.toArray⟩, .int .i64 f.col, .bool f.quoted] rfl rfl (new_cells (HS1.out _) _ 50) (fld_one _ _ _) HC3.out HC4.out (HC5.out _ _) ?_)
        intro v' wq hown' hgrow _
        obtain ⟨Aq, cq, rfl⟩ := row_slice hown'
        have hFs : w2.ownsRow w.heap.size 50 3 (.slice Af fs.length cf) fs.length (fldCells fs) := by rw [← HFV.out]; exact HF2.out
        have p2 := grown_block hFs hgrow P2.out (by decide)
        have p4 := grown_block hFs hgrow P4.out (by decide)
        have hC2x := HC2.out
        rw [HFX.out] at hC2x
        have pg := grown_block hFs hgrow hC2x.cells (by decide)
        have hbq := grown_below hFs hgrow hw2s
        have hKq := HK2.out.thenBelow hbq HBW.out
        have hrowP : ProbRow wq B pv2 ps := by
          have hPr := HP2.out
          refine ⟨hPr.1, ?_⟩
          rcases hPr.2 with h2 | ⟨k, cap, cur, hk, hb, hh, r⟩
          · exact .inl h2
          · exact .inr ⟨k, cap, cur, hk, hb, grown_block hFs hgrow hh (by decide), r⟩
        have hCq : CRd wq g S D Q x pv2 := by
          exact ⟨pg, hC2x.le, hC2x.small⟩
        have hrs := Rolled.set k4 1 wq (.slice Aq (fs.length + 1) cq)
        have hF3 : FldRow (wq.setCell ⟨k4, 1, none⟩ (.slice Aq (fs.length + 1) cq)) w.heap.size (.slice Aq (fs.length + 1) cq) (fs ++ [f]) := by
          unfold FldRow
          rw [fldCells_snoc, List.length_append]
          exact hrs.row hown' (row_ne hown' p4 (by decide))
        have p2s := (hrs.block k2 hk24).trans p2
        have p4s : (wq.setCell ⟨k4, 1, none⟩ (.slice Aq (fs.length + 1) cq)).heap[k4]? = some (.cells #[.int .i64 ln, .slice Aq (fs.length + 1) cq] 48 (0, 0)) := by
          rw [heap_setCell_same wq k4 1 _ _ _ p4]
          rfl
        have hC3 := hCq.own (k := k4) hne4.symm (j := 1) (.slice Aq (fs.length + 1) cq)
        have hP3 : ProbRow (wq.setCell ⟨k4, 1, none⟩ (.slice Aq (fs.length + 1) cq)) B pv2 ps := hrs.row hrowP (prob_ne hrowP p4 (by decide))
        have hK3 := hKq.own (k := k4) (j := 1) hge4 HBW.out (.slice Aq (fs.length + 1) cq)
        have y1 := cell_at p4 1
        have y1f := free_at p4 1
        simp only [List.getElem?_toArray, List.getElem?_cons_zero, List.getElem?_cons_succ] at y1
        have HF3 := hid hF3
        have P2s := hid p2s
        have P4s := hid p4s
        have HC3' := hid hC3
        have HP3 := hid hP3
        have HK3 := hid hK3
        clear hC2x hown' hgrow hFs p2 p4 pg hbq hKq hrowP hCq hrs hF3 p2s p4s hC3 hP3 hK3 HP2 HC2 HK2 P2 P4 HF2 n0 n1 n0f n1f m0 m1' m1f HC3 HC4 HC5 HS1 ne5 ne5' ne6 ne6'
        go_wp2_with fail
        clear y1 y1f
        generalize wq.setCell ⟨k4, 1, none⟩ (.slice Aq (fs.length + 1) cq) = w3 at HF3 P2s P4s HC3' HP3 HK3 ⊢
        have cR := restOfLine_any g x S D Q pv2 w3 HC3'.out
        have hnil := lineS_nil_iff ((lst S).drop x)
        cases he : endL ((lst S).drop x) with
        | true =>
          rw [hnil.2 he] at cR
          have hRR : Hid (R = .ok (fs ++ [f]) (nxt (lst S) x)) := by
            have := HE2.out
            unfold recP at this
            rw [HFX.out] at this
            simp only [he, if_true] at this
            exact hid this.symm
          clear hnil he HE2
          unfold strV at cR
          refine cR.mono ?_
          rintro e w4 ⟨rfl, q4, rfl⟩
          go_wp2_with fail
          refine (skip_any g x S D Q pv2 _ (HC3'.out.drawn q4)).mono ?_
          rintro e w4 ⟨rfl, hC4, hR4⟩
          have hR3 := (Rolled.drawn g w3 q4).trans hR4
          have p2 := (hR3.block k2 hne2).trans P2s.out
          have p4 := (hR3.block k4 hne4).trans P4s.out
          have n0 := cell_at p2 0
          have n1 := cell_at p2 1
          have n0f := free_at p2 0
          have n1f := free_at p2 1
          have m0 := cell_at p4 0
          have m1' := cell_at p4 1
          simp only [List.getElem?_toArray, List.getElem?_cons_zero, List.getElem?_cons_succ] at n0 n1 m0 m1'
          have hP4 := hR3.row HP3.out (prob_ne HP3.out HC3'.out.cells (by decide))
          have hF4 : FldRow w4 w.heap.size (.slice Aq (fs.length + 1) cq) (fs ++ [f]) := hR3.row HF3.out (row_ne HF3.out HC3'.out.cells (by decide))
          have hK4 := HK3.out.trans (CKept.rolled hR3)
          have P2 := hid p2
          have HC4 := hid hC4
          have HP4 := hid hP4
          have HF4 := hid hF4
          have HK4 := hid hK4
          have hk42 := hk24.symm
          clear p2 p4 hP4 hF4 hK4 hR4 hR3 hC4 HF3 P2s P4s HC3' HP3 HK3
          go_wp2
          obtain ⟨w5, hw5⟩ : ∃ w5, w5 = (w4.setCell ⟨k2, 0, none⟩ (.int .i64 ln)).setCell ⟨k2, 1, none⟩ (.slice Aq (fs.length + 1) cq) := ⟨_, rfl⟩
          rw [← hw5]
          refine bodyPost_ret (v := .tuple #[.agg #[.int .i64 ln, .slice Aq (fs.length + 1) cq], .bool true]) (results_ct rfl _ _ _ ⟨k2, 0, none⟩ _ _ rfl rfl (load48 (fin48 P2.out ⟨_, _, rfl⟩ hw5))) rfl ?_
          rw [hRR.out, hw5]
          have r0 := Rolled.set k2 0 w4 (.int .i64 ln)
          have r1 := Rolled.set k2 1 (w4.setCell ⟨k2, 0, none⟩ (.int .i64 ln)) (.slice Aq (fs.length + 1) cq)
          exact ⟨(HK4.out.own hge2' HBW.out _).own hge2' HBW.out _, pv2, (HC4.out.own hne2.symm _).own hne2.symm _,
            ⟨_, rfl, r1.row (r0.row HF4.out (row_ne HF4.out P2.out (by decide))) (row_ne HF4.out P2.out (by decide))⟩,
            r1.row (r0.row HP4.out (prob_ne HP4.out P2.out (by decide))) (prob_ne HP4.out P2.out (by decide))⟩
        | false =>
          have hl : lineS ((lst S).drop x) ≠ [] := fun e => by rw [hnil.1 e] at he; simp at he
          have hk1 := str_ne _ hl
          have hk2' := str_ne2 _ hl
          have hk3' := str_ne3 _ hl
          have hRR : Hid (recP (lst S) D Q m (fs ++ [f]) (x + 1) = R) := by
            have := HE2.out
            unfold recP at this
            rw [HFX.out] at this
            simp only [he, Bool.false_eq_true, if_false] at this
            exact hid this
          have hdl := field_delim _ _ _ _ _ _ HFX.out he
          have hxl := end_lt _ _ he
          rw [← Lib.size_eq] at hxl
          have htk : ((lst S).drop x).take 1 = [D] := by
            cases hd : (lst S).drop x with
            | nil => rw [hd] at hdl; simp at hdl
            | cons y u => rw [hd] at hdl; simp at hdl; subst hdl; rfl
          have cP := fun w' (h' : CRd w' g S D Q x pv2) => pass_any g x 1 S D Q pv2 w' h' (by omega)
          rw [htk] at cP
          have CP := hid cP
          clear hnil he HE2 hl hdl htk cP
          unfold strV at cR
          generalize (⟨(lineS ((lst S).drop x)).toArray⟩ : ByteArray) = T at *
          refine cR.mono ?_
          rintro e w4 ⟨rfl, q4, rfl⟩
          have hC4 := HC3'.out.drawn q4
          have hR34 := Rolled.drawn g w3 q4
          generalize w3.drewN q4 = w4 at hC4 hR34 ⊢
          have c4 := hC4.c4
          go_wp2_with fail
          go_still_tail 7, (by kernel_rfl)
          change wpList _ _ _ _ _ (World.drew _)
          go_wp2_with fail
          refine (CP.out _ (hC4.drawn 1)).mono ?_
          rintro e w5 ⟨rfl, hC5, hR5⟩
          all_goals
            have hR3 := (hR34.trans (Rolled.drawn g _ 1)).trans hR5
            go_wp2
            go_roundg g'
            case measure => simp
            case rel =>
              refine ⟨rfl, x + 1, fs ++ [f], _, pv2, hid hC5, hid (hR3.row HP3.out (prob_ne HP3.out HC3'.out.cells (by decide))), hid ((hR3.block k2 hne2).trans P2s.out), hid ((hR3.block k4 hne4).trans P4s.out), hid (hR3.row HF3.out (row_ne HF3.out HC3'.out.cells (by decide))), by simp; omega, hid ?_, hid (HK3.out.trans (CKept.rolled hR3)), by simp; omega⟩
              rw [List.length_append, show 12 - (fs.length + [f].length) = m by simp; omega]
              exact hRR.out
      · have HP2 := hid hP2
        have HFX := hid hf
        clear hP2 hf
        have hRR : Hid (R = .bad p x) := by
          have := HE2.out
          unfold recP at this
          rw [HFX.out] at this
          exact hid this.symm
        go_wp2
        obtain ⟨w5, hw5⟩ : ∃ w5, w5 = (w2.setCell ⟨k2, 0, none⟩ (.int .i64 0)).setCell ⟨k2, 1, none⟩ (.slice none 0 0) := ⟨_, rfl⟩
        rw [← hw5]
        have hp5 := fin48 P2.out ⟨_, _, rfl⟩ hw5
        have hlt5 := (Array.getElem?_eq_some_iff.1 hp5).1
        refine bodyPost_ret (v := .tuple #[.agg #[.int .i64 0, .slice none 0 0], .bool false]) (results_ct rfl _ _ _ ⟨k2, 0, none⟩ _ _ rfl rfl (load48 ((Below.heap_alloc _ _ _ hlt5).trans hp5))) rfl ?_
        rw [hRR.out]
        have hC2 := HC2.out
        rw [HFX.out] at hC2
        exact (fin_bad HK2.out HBW.out hC2 HP2.out hne2.symm hge2' P2.out hw5).under (Below.alloc (Below.refl _ _) (Nat.le_refl _) _) HBW.out
end Go.Proofs.YtcpkefjijinhiaaDoor
