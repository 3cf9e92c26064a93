/-
  Whether a way connects the same buildings as one of a list: connectsSame of travel, slices.IndexFunc, slices.ContainsFunc. Conditions: the ways lie in memory.
  A list of buildings with one more: including of travel; an append that leaves the old slice as it was. Conditions: the row is the call's own.
-/
import Derived.Test.YtocmbifljkcmeaaDoorR8T
import Derived.Test.YtocmbifljkcmeaaDoorR8A
set_option linter.unusedVariables false
namespace Go.Proofs.YtocmbifljkcmeaaDoor
open Go Go.Proofs Go.RowKit Go.Lib

theorem beq_ba (x y : Str) : ((ba x).toList == (ba y).toList) = decide (x = y) := by
  have e1 : (ba x).toList = x := Lib.toList_data _
  have e2 : (ba y).toList = y := Lib.toList_data _
  rw [e1, e2, Bool.eq_iff_iff]
  simp
set_option maxHeartbeats 8000000 in
set_option maxRecDepth 100000 in
theorem twin_any (r v : WayD) (w : World) : Calls Tryd.prog 56 #[wayV r, wayV v] w (Says (.bool (twinB r v)) w) := by
  unfold Says twinB wayV
  have h11 := beq_ba r.1 v.1
  have h22 := beq_ba r.2.1 v.2.1
  have h12 := beq_ba r.1 v.2.1
  have h21 := beq_ba r.2.1 v.1
  have hb1 : Below w.heap.size w ((w.alloc (.cells #[.string (ba r.1), .string (ba r.2.1), .int .i64 r.2.2] 51)).alloc (.cells #[.string (ba v.1), .string (ba v.2.1), .int .i64 v.2.2] 51)) := ((Below.refl _ w).alloc (Nat.le_refl _) _).alloc (by simp) _
  have k1 := Box3.new w 51 (.string (ba r.1)) (.string (ba r.2.1)) (.int .i64 r.2.2)
  have k2 := Box3.new (w.alloc (.cells #[.string (ba r.1), .string (ba r.2.1), .int .i64 r.2.2] 51)) 51 (.string (ba v.1)) (.string (ba v.2.1)) (.int .i64 v.2.2)
  have k3 := k1.next ((Below.refl _ _).alloc (Nat.le_refl _) (.cells #[.string (ba v.1), .string (ba v.2.1), .int .i64 v.2.2] 51))
  rw [show (w.alloc (.cells #[.string (ba r.1), .string (ba r.2.1), .int .i64 r.2.2] 51)).heap.size = w.heap.size + 1 by simp] at k2
  obtain ⟨X1, hX1⟩ : ∃ z, ba r.1 = z := ⟨_, rfl⟩
  obtain ⟨X2, hX2⟩ : ∃ z, ba r.2.1 = z := ⟨_, rfl⟩
  obtain ⟨Y1, hY1⟩ : ∃ z, ba v.1 = z := ⟨_, rfl⟩
  obtain ⟨Y2, hY2⟩ : ∃ z, ba v.2.1 = z := ⟨_, rfl⟩
  rw [hX1, hX2, hY1, hY2] at hb1 k2 k3 ⊢
  rw [hX1, hY1] at h11
  rw [hX2, hY2] at h22
  rw [hX1, hY2] at h12
  rw [hX2, hY1] at h21
  obtain ⟨b11, e11⟩ : ∃ b, decide (r.1 = v.1) = b := ⟨_, rfl⟩
  obtain ⟨b22, e22⟩ : ∃ b, decide (r.2.1 = v.2.1) = b := ⟨_, rfl⟩
  obtain ⟨b12, e12⟩ : ∃ b, decide (r.1 = v.2.1) = b := ⟨_, rfl⟩
  obtain ⟨b21, e21⟩ : ∃ b, decide (r.2.1 = v.1) = b := ⟨_, rfl⟩
  rw [e11] at h11 ⊢
  rw [e22] at h22 ⊢
  rw [e12] at h12 ⊢
  rw [e21] at h21 ⊢
  obtain ⟨n1, hn1⟩ : ∃ n, r.2.2 = n := ⟨_, rfl⟩
  obtain ⟨n2, hn2⟩ : ∃ n, v.2.2 = n := ⟨_, rfl⟩
  rw [hn1, hn2] at hb1 k2 k3 ⊢
  obtain ⟨W1, hW⟩ : ∃ W1, ((w.alloc (.cells #[.string X1, .string X2, .int .i64 n1] 51)).alloc (.cells #[.string Y1, .string Y2, .int .i64 n2] 51)) = W1 := ⟨_, rfl⟩
  rw [hW] at hb1 k2 k3
  have x0 := k3.c0
  have x1 := k3.c1
  have y0 := k2.c0
  have y1 := k2.c1
  have HB := hid hb1
  clear hX1 hX2 hY1 hY2 e11 e22 e12 e21 hn1 hn2 hb1 k1 k2 k3
  cases b11 <;> cases b22 <;> cases b12 <;> cases b21
  all_goals
    go_enter Tryd.func56, Tryd.ntmps56
    go_upto_region 1 with fail
    (try rw [hW])
    go_wp2
    go_ret
    exact ⟨rfl, HB.out⟩
theorem egTwin : ∀ args w, (callFunc 56 args).run Tryd.prog w = .ok (.enter 56 args) w := enters_of Tryd.func56 (by kernel_rfl) rfl
set_option maxHeartbeats 8000000 in
set_option maxRecDepth 100000 in
theorem twinIndex_any (A : Option Addr) (l : List WayD) (c : Nat) (r : WayD) (B : Nat) (w : World) (hB : B ≤ w.heap.size) (h : WaysIn w (fun b => b < B) A l) (h63 : l.length ≤ 9223372036854775807) :
    Calls Tryd.prog 64 #[.slice A l.length c, .func (.func 56) #[wayV r] #[]] w fun e w' => (∃ k : Int, e = .returned (.int .i64 k) ∧ -1 ≤ k ∧ decide (0 ≤ k) = dupW l r) ∧ Below w.heap.size w w' := by
  have eg := egTwin
  have HH := hid h
  have HW : Hid (wayV r = .agg #[.string (ba r.1), .string (ba r.2.1), .int .i64 r.2.2]) := hid rfl
  have cT := twin_any r
  unfold Says at cT
  have CT := hid cT
  obtain ⟨V, hV⟩ : ∃ V, wayV r = V := ⟨_, rfl⟩
  rw [hV] at CT ⊢
  clear h cT hV HW
  go_enter Tryd.func64, Tryd.ntmps64
  go_wp2
  go_loopw [5, 8] (fun _ iv wr => ∃ i : Nat, iv = .int .i64 (i : Int) ∧ i ≤ l.length ∧ Hid ((l.take i).any (twinB r) = false) ∧ Hid (Below w.heap.size w wr)) (fun _ iv _ => l.length - (RowKit.intOf iv).toNat)
  case atStart => exact ⟨0, rfl, Nat.zero_le _, hid rfl, hid (Below.refl _ _)⟩
  case round =>
    obtain ⟨i, rfl, hi, hN, hBw⟩ := hrel
    by_cases hlt : i < l.length
    · have hltz : (i : Int) < (l.length : Int) := by omega
      have d1 : decide (l.length ≤ i) = false := decide_eq_false (by omega)
      obtain ⟨b, o, rfl, hb, z0, z1, z2⟩ := HH.out.at_ hlt
      have kc : ∀ p : Nat, wr.cell? ⟨b, p, none⟩ = w.cell? ⟨b, p, none⟩ := fun p => hBw.out.cell (p := ⟨b, p, none⟩) (by show b < w.heap.size; omega)
      rw [← kc] at z0 z1 z2
      have hst : (l.take (i + 1)).any (twinB r) = twinB r l[i] := by
        rw [List.take_succ_eq_append_getElem hlt, List.any_append, hN.out]
        simp
      have hmem : twinB r l[i] = true → dupW l r = true := fun h => List.any_eq_true.2 ⟨_, List.getElem_mem hlt, h⟩
      obtain ⟨y, hy⟩ : ∃ y, l[i] = y := ⟨_, rfl⟩
      rw [hy] at z0 z1 z2 hst hmem
      have cC := CT.out y wr
      unfold wayV at cC
      obtain ⟨t, ht⟩ : ∃ t, twinB r y = t := ⟨_, rfl⟩
      rw [ht] at cC hst hmem
      have CC := hid cC
      have HST := hid hst
      have HMEM := hid hmem
      clear kc hy ht cC hst hmem
      go_wp2_with fail
      refine CC.out.mono ?_
      rintro e w2 ⟨rfl, hb2⟩
      have HB2 := hid (hBw.out.trans (hb2.mono hBw.out.size))
      clear hb2
      cases t with
      | true =>
        go_wp2
        go_ret
        exact ⟨⟨_, rfl, by omega, by rw [HMEM.out trivial]; exact decide_eq_true (by omega)⟩, HB2.out⟩
      | false =>
        go_wp2
        go_roundw
        case rel => exact ⟨i + 1, by go_num, by omega, HST, HB2⟩
        case measure => simp [RowKit.intOf]; omega
    · have hltz : ¬ (i : Int) < (l.length : Int) := by omega
      have hn := hN.out
      rw [List.take_of_length_le (by omega)] at hn
      go_wp2
      go_ret
      exact ⟨⟨-1, rfl, by omega, by unfold dupW; rw [hn]; rfl⟩, hBw.out⟩
set_option maxHeartbeats 2000000 in
theorem twinContains_any (A : Option Addr) (l : List WayD) (c : Nat) (r : WayD) (B : Nat) (w : World) (hB : B ≤ w.heap.size) (h : WaysIn w (fun b => b < B) A l) (h63 : l.length ≤ 9223372036854775807) :
    Calls Tryd.prog 55 #[.slice A l.length c, .func (.func 56) #[wayV r] #[]] w (Says (.bool (dupW l r)) w) := by
  have cI := twinIndex_any A l c r B w hB h h63
  unfold Says
  obtain ⟨V, hV⟩ : ∃ V, wayV r = V := ⟨_, rfl⟩
  obtain ⟨D, hD⟩ : ∃ D, dupW l r = D := ⟨_, rfl⟩
  rw [hV, hD] at cI
  rw [hV, hD]
  have CI := hid cI
  clear cI h hV hD
  go_enter Tryd.func55, Tryd.ntmps55
  go_wp2_with fail
  refine CI.out.mono ?_
  rintro e w' ⟨⟨k, rfl, hk, hd⟩, hb⟩
  have HB := hid hb
  have HD := hid hd
  clear hb hd
  go_wp2
  go_ret
  exact ⟨by rw [← HD.out]; rfl, HB.out⟩
end Go.Proofs.YtocmbifljkcmeaaDoor

set_option linter.unusedVariables false
namespace Go.Proofs.YtocmbifljkcmeaaDoor
open Go Go.Proofs Go.RowKit Go.Lib

theorem run_append_keep {P : Program} (w : World) (B : Nat) (t ty e : TypeId) (i : TypeInfo) (z : Value) (size bytes : Nat) (ht : P.underlying t = some (.slice e)) (hi : P.info? e = some i) (hz : i.zero = some z)
    (hsize : i.size = size) (hby : i.bytes = bytes) (hzs : z.cells.size = size) (hsz : 0 < size)
    (v : Value) (n : Nat) (xs : List Value) (hown : w.ownsRow B e size v n xs)
    (a : Addr) (m c : Nat) (news : List Value) (hl : news.length = m * size) (hnews : ∀ j u, news[j]? = some u → w.cell? (a.add j) = some u) (h1 : ∀ u ∈ news, u.oneCell' = true)
    (h63 : n + m ≤ maxLen) (hbytes : (n + m) * bytes ≤ 140737488355328) (hbase : B ≤ w.heap.size) :
    ∃ v' w', (Builtin.append_ #[t, t] ty #[v, .slice (some a) m c]).run P w = .ok v' w' ∧ w'.ownsRow B e size v' (n + m) (xs ++ news) ∧ w'.ownsRow B e size v n xs ∧ w.grownBy w' v.ownBlock ∧
      ((v'.ownBlock = v.ownBlock ∧ w.ownsRow B e size v n xs) ∨ ∃ k, v'.ownBlock = some k ∧ w.heap.size ≤ k) := by
  have hown' := hown
  rcases hown.2 with ⟨rfl, rfl⟩ | ⟨g, cap, cur, rfl, hB, hg, hc1, hc2, hc3, hc4⟩
  · obtain ⟨v', w', hr, h2, h3, _, h5⟩ := run_append_own_at (P := P) w B t ty e i z size bytes ht hi hz hsize hby hzs hsz (.slice none 0 0) 0 xs hown a m c news hl hnews h1 h63 hbytes hbase
    refine ⟨v', w', hr, h2, World.ownsRow.kept hown h3 (.inl rfl), h3, ?_⟩
    rcases h5 with h5 | h5
    · exact .inl ⟨h5, hown⟩
    · exact .inr ⟨_, h5, Nat.le_refl _⟩
  · by_cases hroom : n + m ≤ cap
    · obtain ⟨w', hr, h2, h3⟩ := run_append_own_spare (P := P) w B t ty e i size ht hi hsize g n cap xs hown a m c news hl hnews h1 hroom
      refine ⟨_, w', hr, h2, ?_, h3, .inl ⟨rfl, hown⟩⟩
      refine ⟨hown.1, .inr ?_⟩
      rcases h2.2 with ⟨h, _⟩ | ⟨g2, cap2, cur2, h, hB2, hg2, he1, he2, he3, he4⟩
      · cases h
      · injection h with h _ h3'
        injection h with h
        injection h with h
        subst h
        subst h3'
        refine ⟨g, cap, cur2, rfl, hB, hg2, hc1, hc2, he3, ?_⟩
        have hle : n * size ≤ (n + m) * size := Nat.mul_le_mul_right _ (by omega)
        have := congrArg (List.take (n * size)) he4
        rw [List.take_take, Nat.min_eq_left hle] at this
        rw [this, List.take_append_of_le_length (by rw [hown.1]; exact Nat.le_refl _)]
        exact List.take_of_length_le (by rw [hown.1]; exact Nat.le_refl _)
    · obtain ⟨v', w', hr, h2, h3⟩ := run_append_arg_grows (P := P) w t ty e i z size bytes ht hi hz hsize hby hzs hsz ⟨g, 0, none⟩ n cap xs (by rw [hown.1]) (fun j u hj => World.ownsRow.cells hown (g := g) rfl j u hj) a m c news hl hnews (by omega) h63 hbytes
      refine ⟨v', w', hr, ⟨h2.1, ?_⟩, World.ownsRow.kept hown h3 (.inr (by simp [Value.ownBlock])), ⟨h3.os, h3.tape, h3.output, h3.size, fun k hk hne => h3.block k hk (by simp)⟩, .inr ?_⟩
      · rcases h2.2 with h | ⟨g2, cap2, cur2, h, hB2, rest⟩
        · exact .inl h
        · exact .inr ⟨g2, cap2, cur2, h, by omega, rest⟩
      · rcases h2.2 with ⟨rfl, h0⟩ | ⟨g2, cap2, cur2, rfl, hB2, rest⟩
        · omega
        · exact ⟨g2, rfl, hB2⟩
/-- What including leaves behind. -/
def IncOut (B : Nat) (v : Value) (l : List Str) (s : Str) (w : World) (e : Ending) (w' : World) : Prop :=
  ∃ v', e = .returned v' ∧ S3.StrRow w' B v' (inc l s) ∧ S3.StrRow w' B v l ∧ w.grownBy w' v.ownBlock ∧ (v'.ownBlock = v.ownBlock ∨ ∃ k, v'.ownBlock = some k ∧ w.heap.size ≤ k)
theorem one_str_new (w : World) (x : ByteArray) : ∀ (j : Nat) (u : Value), ([Value.string x] : List Value)[j]? = some u → (w.alloc (.cells #[.string x] 9)).cell? ((⟨w.heap.size, 0, none⟩ : Addr).add j) = some u := by
  intro j u h
  rw [Addr.add_lit]
  match j, h with
  | 0, h => rw [Nat.zero_add, Lib.cell_of_heap (heap_alloc_new w _)]; exact h
  | j + 1, h => simp at h
set_option maxHeartbeats 4000000 in
set_option maxRecDepth 100000 in
theorem including_any (B : Nat) (v : Value) (l : List Str) (x : ByteArray) (w : World) (hB : B ≤ w.heap.size) (h : S3.StrRow w B v l) (hl : l.length ≤ 1000) :
    Calls Tryd.prog 54 #[v, .string x] w (IncOut B v l (lst x) w) := by
  obtain ⟨iI, hiI, hzI, hsI, hbI⟩ := info_parts S3.infoStr
  obtain ⟨A, c, rfl, _, _, hin⟩ := h.strsIn
  have cC := contains_any A l c x _ w hin (by omega)
  unfold IncOut inc
  have HH := hid h
  have hrow : w.ownsRow B 9 1 (.slice A l.length c) l.length (S3.strVals l) := h
  clear h hin
  by_cases hm : lst x ∈ l
  · rw [decide_eq_true hm] at cC
    rw [if_pos hm]
    have CC := hid cC
    clear cC hm hrow
    go_enter Tryd.func54, Tryd.ntmps54
    go_wp2_with fail
    refine CC.out.mono ?_
    rintro e w' ⟨rfl, rfl⟩
    go_wp2
    go_ret
    exact ⟨_, rfl, HH.out, HH.out, ⟨rfl, rfl, rfl, Nat.le_refl _, fun _ _ _ => rfl⟩, .inl rfl⟩
  · rw [decide_eq_false hm] at cC
    rw [if_neg hm]
    have CC := hid cC
    have hbw : Below w.heap.size w (w.alloc (.cells #[.string x] 9)) := (Below.refl _ w).alloc (Nat.le_refl _) _
    obtain ⟨v', w', hrun, h2, h3, h4, h5⟩ := run_append_keep (P := Tryd.prog) (w.alloc (.cells #[.string x] 9)) B 22 22 9 iI (.string ⟨#[]⟩) 1 16 Tryd.underlying22 hiI hzI hsI hbI rfl (by omega) (.slice A l.length c) l.length (S3.strVals l) (World.ownsRow.alloc hrow _) ⟨w.heap.size, 0, none⟩ 1 1 [.string x] rfl (one_str_new w x) (by intro u hu; rw [List.mem_singleton] at hu; subst hu; rfl) (by unfold maxLen; omega) (by omega) (by simp; omega)
    have hv : S3.strVals (l ++ [lst x]) = S3.strVals l ++ [.string x] := by
      unfold S3.strVals
      rw [List.map_append]
      congr 1
    have hg : w.grownBy w' (Value.slice A l.length c).ownBlock := ⟨h4.os, h4.tape, h4.output, Nat.le_trans (by simp) h4.size, fun k hk hne => (h4.block k (by simp; omega) hne).trans (heap_alloc_old _ _ hk)⟩
    have H2 : Hid (S3.StrRow w' B v' (l ++ [lst x])) := hid (by unfold S3.StrRow; rw [hv, List.length_append]; exact h2)
    have H3 : Hid (S3.StrRow w' B (.slice A l.length c) l) := hid h3
    have HG := hid hg
    have H5 : Hid (v'.ownBlock = (Value.slice A l.length c).ownBlock ∨ ∃ k, v'.ownBlock = some k ∧ w.heap.size ≤ k) := hid (by
      rcases h5 with ⟨h5, _⟩ | ⟨k, h5, h6⟩
      · exact .inl h5
      · exact .inr ⟨k, h5, by simp at h6; omega⟩)
    clear cC hm hrow h2 h3 h4 h5 hg hv hbw
    go_enter Tryd.func54, Tryd.ntmps54
    go_wp2_with fail
    refine CC.out.mono ?_
    rintro e w1 ⟨rfl, rfl⟩
    go_wp2_with (at_builtin; refine wpList_append_known rfl _ _ 22 22 rfl _ _ _ rfl rfl hrun ?_)
    go_wp2
    go_ret
    exact ⟨_, rfl, H2.out, H3.out, HG.out, H5.out⟩
end Go.Proofs.YtocmbifljkcmeaaDoor

