/-
  The closed table by the specification: Close. Conditions: the table lies in memory.
-/
import Derived.Test.YtocmbifljkcmeaaDoorR8U
import Derived.Test.YtocmbifljkcmeaaDoorR8E
import Derived.Test.YtocmbifljkcmeaaDoorR8T
import Derived.Laws.CopyOwn
import Derived.StillTailTactics
set_option linter.unusedVariables false
namespace Go.Proofs.YtocmbifljkcmeaaDoor
open Go Go.Proofs Go.RowKit Go.Lib

/-- A row of a table is filled as a whole. -/
theorem TO.fill {w : World} {B O n : Nat} {rb rc : Nat → Nat} {F : Fun2} (h : TO w B O n rb rc F) {i : Nat} (hi : i < n) {cur : Array Value} {T : TypeId} (hg : w.heap[rb i]? = some (.cells cur T (0, 0))) (cs : List Value) (G : Nat → Int) (hG : ∀ k, k < n → cs[k]? = some (.int .i64 (G k))) :
    TO (w.setRow (rb i) (cur.toList.take 0 ++ (cs ++ cur.toList.drop (0 + cs.length))).toArray) B O n rb rc (fun a b => if a = i then G b else F a b) := by
  have hnew := setRow_heap w (rb i) cur (cur.toList.take 0 ++ (cs ++ cur.toList.drop (0 + cs.length))).toArray T (0, 0) hg
  have hold : ∀ b, b ≠ rb i → (w.setRow (rb i) (cur.toList.take 0 ++ (cs ++ cur.toList.drop (0 + cs.length))).toArray).heap[b]? = w.heap[b]? := fun b hb => setRow_other w (rb i) b _ hb
  refine ⟨fun j hj => ?_, fun j hj t ht => ?_, fun j hj t ht => ?_, h.inj, h.ne, h.lo, h.cap, h.oB⟩
  · exact (World.cell?_of_block (w := w) (hold O (fun e => h.ne i hi e.symm))).trans (h.row j hj)
  · by_cases hji : j = i
    · subst hji
      rw [if_pos rfl, Lib.cell_of_heap hnew]
      have hk := hG t ht
      have hl : t < cs.length := (List.getElem?_eq_some_iff.1 hk).1
      simp only [List.take_zero, List.nil_append, List.getElem?_toArray]
      rw [List.getElem?_append_left hl]
      exact hk
    · rw [if_neg hji]
      exact (World.cell?_of_block (w := w) (hold (rb j) (fun e => hji (h.inj j i hj hi e)))).trans (h.ent j hj t ht)
  · by_cases hji : j = i
    · subst hji
      simp only [World.frozen?, hnew]
      simp
    · exact (World.frozen?_of_block (w := w) (hold (rb j) (fun e => hji (h.inj j i hj hi e)))).trans (h.fr j hj t ht)
/-- The rows before the i-th are those of R. -/
def copyF (R : List (List Int)) (i : Nat) : Fun2 := fun a b => if a < i then at2 R a b else unkF a b
/-- The entries before (i, k) are cut off. -/
def cutF (F : Fun2) (i k : Nat) : Fun2 := fun a b => if a < i ∨ (a = i ∧ b < k) then min (F a b) 24 else F a b
theorem cutF_step (F : Fun2) (i k : Nat) : upd (cutF F i k) i k (min (cutF F i k i k) 24) = cutF F i (k + 1) := by
  funext a b
  unfold upd cutF
  by_cases h : a = i ∧ b = k
  · obtain ⟨rfl, rfl⟩ := h
    rw [if_pos ⟨rfl, rfl⟩, if_neg (by omega), if_pos (by omega)]
  · rw [if_neg h]
    by_cases h2 : a < i ∨ (a = i ∧ b < k)
    · rw [if_pos h2, if_pos (by omega)]
    · rw [if_neg h2, if_neg (by omega)]
set_option maxRecDepth 100000 in
theorem rappend_strs (A : Option Addr) (c : Nat) (l : List Str) (w : World) (hl : l.length ≤ 1000000) (hA : A = none → c = 0) (h : S3.StrsIn w (fun b => b < w.heap.size) A l) :
    ∃ A1 c1 w2, (Builtin.append_ #[22, 22] 22 #[.slice none 0 0, .slice A l.length c]).run Tryd.prog w = .ok (.slice A1 l.length c1) w2 ∧ l.length ≤ c1 ∧ c1 ≤ 9223372036854775807 ∧ S3.StrsIn w2 (fun b => w.heap.size ≤ b ∧ b < w2.heap.size) A1 l ∧ Below w.heap.size w w2 := by
  obtain ⟨iI, hiI, hzI, hsI, hbI⟩ := info_parts S3.infoStr
  cases A with
  | none =>
    have hnil : l = [] := by
      rcases h with h | ⟨b, off, hA, _⟩
      · exact h
      · cases hA
    subst hnil
    obtain rfl := hA rfl
    exact ⟨none, 0, w, run_append_owned_none (P := Tryd.prog) (w := w) w.heap.size 22 22 9 iI 1 Tryd.underlying22 hiI _ 0 _ (World.ownsRow_nil _ _ _ _), Nat.le_refl _, Nat.zero_le _, .inl rfl, Below.refl _ _⟩
  | some ad =>
    have hc : ∀ (j : Nat) (u : Value), (S3.strVals l)[j]? = some u → w.cell? (ad.add j) = some u := by
      intro j u hj
      unfold S3.strVals at hj
      rw [List.getElem?_map] at hj
      obtain ⟨x, hx, rfl⟩ := Option.map_eq_some_iff.1 hj
      rcases h with h | ⟨b, off, hA, _, hc⟩
      · subst h; simp at hx
      · injection hA with hA
        subst hA
        rw [Go.WideShapes.add_plain]
        exact hc j x hx
    obtain ⟨v, w2, hrun, hown, hg, _, _⟩ := run_append_own_at (P := Tryd.prog) (w := w) w.heap.size 22 22 9 iI (.string ⟨#[]⟩) 1 16 Tryd.underlying22 hiI hzI hsI hbI rfl (by omega) (.slice none 0 0) 0 [] (World.ownsRow_nil _ _ _ _) ad l.length c (S3.strVals l) (by rw [S3.strVals_len, Nat.mul_one]) hc (fun u hu => by unfold S3.strVals at hu; obtain ⟨s, _, rfl⟩ := List.mem_map.1 hu; rfl) (by unfold maxLen; omega) (by omega) (Nat.le_refl _)
    rw [Nat.zero_add, List.nil_append] at hown
    have hrow : S3.StrRow w2 w.heap.size v l := hown
    obtain ⟨A1, c1, rfl, h1, h2, h3⟩ := hrow.strsIn
    exact ⟨A1, c1, w2, hrun, h1, h2, h3, (Below.refl _ w).grown hg (Nat.le_refl _) (by intro k hk; cases hk)⟩
set_option maxHeartbeats 16000000 in
set_option maxRecDepth 100000 in
theorem rtclose_any (A S : Option Addr) (l : List Str) (R : List (List Int)) (c d : Nat) (w : World) (h : TravIn w (fun b => b < w.heap.size) A S (l, R)) (hc : l.length ≤ c) (hc2 : c ≤ 9223372036854775807) (h64 : R.length ≤ 9223372036854775807) (hA : A = none → c = 0) :
    Calls Tryd.prog 9 #[.agg #[.slice A l.length c, .slice S R.length d]] w (CloseOut (closeM (l, R)) w) := by
  have hk := KC.first w (.slice A l.length c) (.slice S R.length d) 25
  have HK := hid hk
  have HS := hid h
  have cV : ∀ w', Below w.heap.size w w' → Calls Tryd.prog 11 #[.agg #[.slice A l.length c, .slice S R.length d]] w' (Says (.int .i64 (validT (l, R))) w') :=
    fun w' hb => rtvalid_any A S l R c d w' ((h.below hb).mono (fun k hk => Nat.lt_of_lt_of_le hk hb.size)) hc hc2 h64
  have hw1 : ∃ w1, (w.alloc (.cells #[.slice A l.length c, .slice S R.length d] 25)).alloc (.cells #[.slice none 0 0, .slice none 0 0] 25) = w1 := ⟨_, rfl⟩
  obtain ⟨wa, hwa⟩ := hw1
  rw [hwa] at HK
  unfold Says at cV
  obtain ⟨E, hE⟩ : ∃ E, validT (l, R) = E := ⟨_, rfl⟩
  rw [hE] at cV
  have CV := hid cV
  obtain ⟨x0, x1, _, _⟩ := id HK.out.g
  clear hk h cV
  by_cases hE0 : E = 0
  · have hcm : closeM (l, R) = ((l, tabF (closeF (l, R)) l.length), 0) := if_neg (by rw [hE]; simpa using hE0)
    have hcs := close_same (t := (l, R)) (by rw [hE, hE0])
    subst hE0
    rw [hcm]
    obtain ⟨h8, hsq, hok⟩ := validT_zero hE
    dsimp only at h8 hsq hok hcs
    have hRl := sqrB_len hsq
    have HF := hid (funT_ok hok)
    have hap : ∀ w', Below w.heap.size w w' → ∃ A1 c1 w2, (Builtin.append_ #[22, 22] 22 #[.slice none 0 0, .slice A l.length c]).run Tryd.prog w' = .ok (.slice A1 l.length c1) w2 ∧ l.length ≤ c1 ∧ c1 ≤ 9223372036854775807 ∧ S3.StrsIn w2 (fun b => w'.heap.size ≤ b ∧ b < w2.heap.size) A1 l ∧ Below w'.heap.size w' w2 :=
      fun w' hb => rappend_strs A c l w' (by omega) hA ((HS.out.below hb).b.mono (fun k hk => Nat.lt_of_lt_of_le hk hb.size))
    have HAP := hid hap
    obtain ⟨n, hn⟩ : ∃ n, l.length = n := ⟨_, rfl⟩
    have hRB : 0 < n → ∃ b off, S = some ⟨b, off, none⟩ ∧ b < w.heap.size ∧ ∀ i, i < n → ∃ bi oi ci, n ≤ ci ∧ ∀ w', Below w.heap.size w w' → w'.cell? ⟨b, off + i, none⟩ = some (.slice (some ⟨bi, oi, none⟩) n ci) ∧ ∀ k, k < n → w'.cell? ⟨bi, oi + k, none⟩ = some (.int .i64 (at2 R i k)) := fun h0 => by
      obtain ⟨b, off, hS, hb, hr⟩ := HS.out.s.sq (by rw [← hn]; exact hsq) h0
      refine ⟨b, off, hS, hb, fun i hi => ?_⟩
      obtain ⟨bi, oi, ci, h1, h2, h3, _, h4⟩ := hr i hi
      exact ⟨bi, oi, ci, h3, fun w' hb' => ⟨(hb'.cell (p := ⟨b, off + i, none⟩) hb).trans h1, fun k hk => (hb'.cell (p := ⟨bi, oi + k, none⟩) h2).trans (h4 k hk)⟩⟩
    have HRB := hid hRB
    rw [← hcs]
    rw [hRl] at x1 CV HK hwa
    rw [hn] at x0 x1 CV HK HF HAP h8 hwa
    rw [hRl, hn]
    have HNL := hid hn
    clear hE hok hsq hRl hap hn hcm hcs hRB
    go_enter Tryd.func9, Tryd.ntmps9
    go_upto_region 1 with fail
    (try rw [hwa])
    clear hwa
    go_wp2_with fail
    refine (CV.out _ HK.out.g.b).mono ?_
    rintro e w1 ⟨rfl, hb⟩
    have hk1 := HK.out.next hb
    obtain ⟨A1, c1, w2, hrun, hc1, hc1', hin1, hb2⟩ := HAP.out w1 hk1.g.b
    have hk2 := hk1.next hb2
    have HK2 := hid hk2
    have HIN1 := hid hin1
    have HC1 := hid (And.intro hc1 hc1')
    have HW12 := hid hb2.size
    have HK1L := hid hk1.lt
    obtain ⟨x0, x1, _, _⟩ := id hk1.g
    have cU := unknown_any A1 n c1 w2 (by omega)
    have CU := hid cU
    clear hb HK CV HAP hk1 hk2 hin1 hb2 cU hc1 hc1'
    go_wp2_with (at_builtin; refine wpList_append_known rfl _ _ 22 22 rfl _ _ _ rfl rfl hrun ?_)
    go_wp2_with fail
    refine CU.out.mono ?_
    rintro e w3 ⟨⟨v3, rfl, rb, rc, hTB, hKD⟩, hb3⟩
    obtain ⟨S3', c3, rfl⟩ := hTB.slice
    have hk3 := HK2.out.next hb3
    have HK3 := hid hk3
    have hbx := Box2.new w3 25 (.slice A1 n c1) (.slice S3' n c3)
    have HBX := hid hbx
    have HW3 := hid (HK2.out.lt)
    have hb4 : Below w2.heap.size w2 (w3.alloc (.cells #[.slice A1 n c1, .slice S3' n c3] 25)) := hb3.alloc hb3.size _
    have ht4 := hTB.next ((Below.refl _ w3).alloc (Nat.le_refl _) (.cells #[.slice A1 n c1, .slice S3' n c3] 25))
    have hd4 : ∀ i, i < n → Kd (w3.alloc (.cells #[.slice A1 n c1, .slice S3' n c3] 25)) (rb i) n := fun i hi => (hKD i hi).kept (heap_alloc_old _ _ (hTB.hi i hi))
    have HNE : Hid (∀ i, i < n → rb i ≠ w3.heap.size) := hid (fun i hi e => by have := hTB.hi i hi; omega)
    have HP : Hid (w2.heap.size ≤ w3.heap.size) := hid hb3.size
    have HB4 := hid hb4
    have HT4 := hid ht4
    have HD4 := hid hd4
    obtain ⟨pp, hpp⟩ : ∃ p, w3.heap.size = p := ⟨_, rfl⟩
    rw [hpp] at HBX HNE HP
    clear x0 x1 hrun CU hk3 hbx hb3 hb4 ht4 hd4 hTB hKD HK3
    by_cases hn0 : n = 0
    · have hl0 : l = [] := List.eq_nil_of_length_eq_zero (by rw [HNL.out, hn0])
      subst hl0
      subst hn0
      clear HT4 HD4 HNE HRB
      go_wp2_with fail
      (try rw [hpp])
      generalize w3.alloc _ = w4 at HBX HB4 ⊢
      go_loop [7] (fun iv => iv = .int .i64 0) (fun _ => 0)
      case atStart => rfl
      case round =>
        subst hrel
        go_wp2
        go_loop [8, 9, 10, 11, 12] (fun iv _ _ _ _ => iv = .int .i64 0) (fun _ _ _ _ _ => 0)
        case atStart => rfl
        case round =>
          subst hrel
          go_wp2
          go_loop [13, 14] (fun iv _ => iv = .int .i64 0) (fun _ _ => 0)
          case atStart => rfl
          case round =>
            subst hrel
            have hk4 := HK2.out.next HB4.out
            obtain ⟨r0, r1⟩ := And.intro hk4.r.c0 hk4.r.c1
            have f0 := hk4.r.free 0
            have f1 := hk4.r.free 1
            obtain ⟨y0, y1⟩ := And.intro HBX.out.c0 HBX.out.c1
            have HK4 := hid hk4
            clear hk4
            go_wp2
            exact close_end (A := A1) (S := S3') (c := c1) (d := c3) (p := 2) (u := 3) rfl rfl rfl rfl (HK4.out.r.set _ _) ⟨.inl rfl, .inl rfl⟩ ((HK4.out.g.b.setCell (p := ⟨w.heap.size + 1, 0, none⟩) (by show w.heap.size ≤ w.heap.size + 1; omega) _).setCell (p := ⟨w.heap.size + 1, 1, none⟩) (by show w.heap.size ≤ w.heap.size + 1; omega) _)
    · have hnp : 0 < n := by omega
      obtain ⟨O, cap, hv, hcp1, hcp2, hTO⟩ := HT4.out.to hnp
      injection hv with hv1 _ hv2
      subst hv1
      subst hv2
      obtain ⟨sb, so, rfl, hsb, hsr⟩ := HRB.out hnp
      have HSR := hid hsr
      have HSB := hid hsb
      have HCAP := hid (And.intro hcp1 hcp2)
      have HTO := hid (hTO.congr (G := copyF R 0) (fun i hi k hk => by unfold copyF; rw [if_neg (by omega)]))
      clear hTO HT4 hsr hsb HRB hcp1 hcp2
      go_wp2_with fail
      (try rw [hpp])
      generalize w3.alloc _ = w4 at HBX HB4 HTO HD4 ⊢
      clear hpp
      go_loopw [7] (fun iv wr => ∃ i : Nat, iv = .int .i64 (i : Int) ∧ i ≤ n ∧ Hid (Below w2.heap.size w2 wr) ∧ Hid (Box2 wr pp 25 (.slice A1 n c1) (.slice (some ⟨O, 0, none⟩) n c3)) ∧ Hid (TO wr (w2.heap.size + 2) O n rb rc (copyF R i)) ∧ Hid (∀ j, j < n → Kd wr (rb j) n)) (fun iv _ => n - (RowKit.intOf iv).toNat)
      case atStart => exact ⟨0, rfl, Nat.zero_le _, HB4, HBX, HTO, HD4⟩
      case round =>
        clear HB4 HBX HTO HD4
        obtain ⟨i, rfl, hi, HB4, HBX, HTO, HD4⟩ := hrel
        by_cases hlt : i < n
        · have hltz : (i : Int) < (n : Int) := by omega
          have d1 : decide (n ≤ i) = false := decide_eq_false (by omega)
          have hk4 := HK2.out.next HB4.out
          obtain ⟨bi, oi, ci, hci, hsrc⟩ := HSR.out i hlt
          obtain ⟨z1, z2⟩ := hsrc wr hk4.g.b
          obtain ⟨y0, y1⟩ := And.intro HBX.out.c0 HBX.out.c1
          have z3 := HTO.out.row i hlt
          have x1 := hk4.g.x1
          obtain ⟨cur, T, hg, hcur⟩ := HD4.out i hlt
          have HG : Hid (wr.drew.heap[rb i]? = some (.cells cur T (0, 0))) := hid hg
          have HCU := hid hcur
          have HCS : Hid (((List.range n).map fun k => Value.int .i64 (at2 R i k)).length = Nat.min n n) := hid (by simp)
          have HZ2 : Hid (∀ (j : Nat) (v : Value), ((List.range n).map fun k => Value.int .i64 (at2 R i k))[j]? = some v → wr.drew.cell? ((⟨bi, oi, none⟩ : Addr).add j) = some v) := hid (fun j v hj => by
            rw [List.getElem?_map] at hj
            obtain ⟨j', hj', rfl⟩ := Option.map_eq_some_iff.1 hj
            have hjl := (List.getElem?_eq_some_iff.1 hj').1
            simp at hjl
            rw [List.getElem?_range hjl] at hj'
            obtain rfl := Option.some.inj hj'
            rw [Addr.add_lit]
            exact z2 j hjl)
          have HFIT : Hid (0 + ((List.range n).map fun k => Value.int .i64 (at2 R i k)).length ≤ cur.size) := hid (by simp; exact hcur)
          have HONE : Hid (∀ v ∈ ((List.range n).map fun k => Value.int .i64 (at2 R i k)), v.oneCell' = true) := hid (fun v hv => by
            obtain ⟨k, _, rfl⟩ := List.mem_map.1 hv
            rfl)
          have HTF := hid (TO.fill (w := wr.drew) (HTO.out.next ((Below.refl _ wr).drew)) hlt hg ((List.range n).map fun k => Value.int .i64 (at2 R i k)) (fun k => at2 R i k) (fun k hk => by rw [List.getElem?_map, List.getElem?_range hk]; rfl))
          have hob : ∀ b, b ≠ rb i → (wr.drew.setRow (rb i) (cur.toList.take 0 ++ (((List.range n).map fun k => Value.int .i64 (at2 R i k)) ++ cur.toList.drop (0 + ((List.range n).map fun k => Value.int .i64 (at2 R i k)).length))).toArray).heap[b]? = wr.heap[b]? := fun b hb => setRow_other wr.drew (rb i) b _ hb
          have HBF := hid (HBX.out.kept (hob pp (fun e => HNE.out i hlt e.symm)))
          have HBE := hid (below_setRow (HB4.out.drew) (by have := HTO.out.lo i hlt; omega : w2.heap.size ≤ rb i) (cur.toList.take 0 ++ (((List.range n).map fun k => Value.int .i64 (at2 R i k)) ++ cur.toList.drop (0 + ((List.range n).map fun k => Value.int .i64 (at2 R i k)).length))).toArray)
          have HDE : Hid (∀ j, j < n → Kd (wr.drew.setRow (rb i) (cur.toList.take 0 ++ (((List.range n).map fun k => Value.int .i64 (at2 R i k)) ++ cur.toList.drop (0 + ((List.range n).map fun k => Value.int .i64 (at2 R i k)).length))).toArray) (rb j) n) := hid (fun j hj => by
            by_cases hji : j = i
            · subst hji
              exact ⟨_, T, setRow_heap wr.drew (rb j) cur _ T (0, 0) hg, by simp⟩
            · exact (HD4.out j hj).kept (hob (rb j) (fun e => hji (HTO.out.inj j i hj hlt e))))
          have hfe : (fun a b => if a = i then at2 R i b else copyF R i a b) = copyF R (i + 1) := by
            funext a b
            unfold copyF
            by_cases hai : a = i
            · rw [if_pos hai, if_pos (by omega), hai]
            · rw [if_neg hai]
              by_cases hal : a < i
              · rw [if_pos hal, if_pos (by omega)]
              · rw [if_neg hal, if_neg (by omega)]
          rw [hfe] at HTF
          obtain ⟨bg, hbg⟩ : ∃ b, rb i = b := ⟨_, rfl⟩
          rw [hbg] at z3 HG HTF HBF HBE HDE
          clear hsrc z2 hg hcur hob hfe hbg hk4 hci
          go_upto_region 9 with fail
          refine wp_region_still_tail 10 (by kernel_rfl) (by kernel_rfl) ?_
          simp only [List.take_succ_cons, List.take_zero, List.drop_succ_cons, List.drop_zero]
          repeat still_step
          refine wpStill_nil ?_
          change wpList _ _ _ _ _ wr.drew
          refine wpList_copy_own rfl (.tmp 37) (.tmp 42) 48 48 rfl 3 Tryd.underlying48 (by kernel_rfl) bg 0 n (rc i) ⟨bi, oi, none⟩ n ci rfl rfl cur T HG.out _ HCS.out HZ2.out HFIT.out HONE.out ?_
          generalize wr.drew.setRow bg _ = w5 at HBE HBF HTF HDE ⊢
          go_wp2
          go_roundw
          case rel => exact ⟨i + 1, by go_num, by omega, HBE, HBF, HTF, HDE⟩
          case measure => simp [RowKit.intOf]; omega
        · have hltz : ¬ (i : Int) < (n : Int) := by omega
          obtain rfl : i = n := by omega
          have HT5 := hid (HTO.out.congr (G := funT R i) (fun a ha k hk => by unfold copyF; rw [if_pos ha, funT_in ha hk]))
          clear HTO HD4
          have HBN := hid (bnd_out (F := funT R i) HF.out.1 HF.out.2.1 HF.out.2.2 i)
          obtain ⟨F0, hF0⟩ : ∃ F, funT R i = F := ⟨_, rfl⟩
          rw [hF0] at HT5 HBN
          have HF0 := hid hF0
          clear hF0 HF HSR hlt hltz hi
          go_wp2
          go_loopw [8, 9, 10, 11, 12] (fun ov _ _ _ _ wr => ∃ o : Nat, ov = .int .i64 (o : Int) ∧ o ≤ i ∧ Hid (Below w2.heap.size w2 wr) ∧ Hid (Box2 wr pp 25 (.slice A1 i c1) (.slice (some ⟨O, 0, none⟩) i c3)) ∧ Hid (TO wr (w2.heap.size + 2) O i rb rc (outF stepR i F0 o))) (fun ov _ _ _ _ _ => i - (RowKit.intOf ov).toNat)
          case atStart => exact ⟨0, rfl, Nat.zero_le _, HB4, HBX, HT5⟩
          case round =>
            clear HB4 HBX HT5
            obtain ⟨o, rfl, ho, HB4, HBX, HTO⟩ := hrel
            by_cases hlt : o < i
            · have hltz : (o : Int) < (i : Int) := by omega
              obtain ⟨Fo, hFo⟩ : ∃ F, outF stepR i F0 o = F := ⟨_, rfl⟩
              have hbn := HBN.out o
              rw [hFo] at HTO hbn
              have hnext : Hid (midF stepR i Fo o i = outF stepR i F0 (o + 1)) := hid (by rw [← hFo]; rfl)
              have HBM := hid (hbn.mid i)
              have HCAPO := hid (capN_le o (by omega))
              clear hFo hbn
              go_wp2
              go_loopw [9, 10, 11, 12] (fun fv _ _ _ wr => ∃ f : Nat, fv = .int .i64 (f : Int) ∧ f ≤ i ∧ Hid (Below w2.heap.size w2 wr) ∧ Hid (Box2 wr pp 25 (.slice A1 i c1) (.slice (some ⟨O, 0, none⟩) i c3)) ∧ Hid (TO wr (w2.heap.size + 2) O i rb rc (midF stepR i Fo o f))) (fun fv _ _ _ _ => i - (RowKit.intOf fv).toNat)
              case atStart => exact ⟨0, rfl, Nat.zero_le _, HB4, HBX, HTO⟩
              case round =>
                clear HB4 HBX HTO
                obtain ⟨f, rfl, hf, HB4, HBX, HTO⟩ := hrel
                by_cases hlt2 : f < i
                · have hltz2 : (f : Int) < (i : Int) := by omega
                  obtain ⟨Ff, hFf⟩ : ∃ F, midF stepR i Fo o f = F := ⟨_, rfl⟩
                  have hbn := HBM.out f
                  rw [hFf] at HTO hbn
                  have hnext2 : Hid (innF stepR Ff o f i = midF stepR i Fo o (f + 1)) := hid (by rw [← hFf]; rfl)
                  have HBI := hid (hbn.inn f)
                  clear hFf hbn
                  go_wp2
                  go_loopw [10, 11, 12] (fun tv _ _ wr => ∃ t : Nat, tv = .int .i64 (t : Int) ∧ t ≤ i ∧ Hid (Below w2.heap.size w2 wr) ∧ Hid (Box2 wr pp 25 (.slice A1 i c1) (.slice (some ⟨O, 0, none⟩) i c3)) ∧ Hid (TO wr (w2.heap.size + 2) O i rb rc (innF stepR Ff o f t))) (fun tv _ _ _ => i - (RowKit.intOf tv).toNat)
                  case atStart => exact ⟨0, rfl, Nat.zero_le _, HB4, HBX, HTO⟩
                  case round =>
                    clear HB4 HBX HTO
                    obtain ⟨t, rfl, ht, HB4, HBX, HTO⟩ := hrel
                    by_cases hlt3 : t < i
                    · have hltz3 : (t : Int) < (i : Int) := by omega
                      have d1 : decide (i ≤ o) = false := decide_eq_false (by omega)
                      have d2 : decide (i ≤ f) = false := decide_eq_false (by omega)
                      have d3 : decide (i ≤ t) = false := decide_eq_false (by omega)
                      obtain ⟨G, hG⟩ : ∃ F, innF stepR Ff o f t = F := ⟨_, rfl⟩
                      have hbn := HBI.out t
                      rw [hG] at HTO hbn
                      have hnext3 : stepR G o f t = innF stepR Ff o f (t + 1) := by rw [← hG]; rfl
                      have z1 := HTO.out.row f hlt2
                      have z2 := HTO.out.row o hlt
                      have z3 := HTO.out.ent f hlt2 t hlt3
                      have z4 := HTO.out.ent f hlt2 o hlt
                      have z5 := HTO.out.ent o hlt t hlt3
                      have z6 := HTO.out.fr f hlt2 t hlt3
                      obtain ⟨y0, y1⟩ := And.intro HBX.out.c0 HBX.out.c1
                      have hc0 := HCAPO.out
                      have hb1 := hbn.hi f t
                      have hb2 := hbn.hi f o
                      have hb3 := hbn.hi o t
                      have hl1 := hbn.lo f t
                      have hl2 := hbn.lo f o
                      have hl3 := hbn.lo o t
                      have hset := HTO.out.set hlt2 hlt3 (G f o + G o t)
                      have hsame := HTO.out
                      have HB5 : Hid (Below wr.heap.size wr wr.drew) := hid ((Below.refl _ wr).drew)
                      have HLO := hid (HTO.out.lo f hlt2)
                      have HNF := hid (HNE.out f hlt2)
                      have hstep : stepR G o f t = if 0 ≤ G f o ∧ 0 ≤ G o t ∧ (G f t < 0 ∨ G f o + G o t < G f t) then upd G f t (G f o + G o t) else G := rfl
                      rw [hnext3] at hstep
                      obtain ⟨v1, hv1⟩ : ∃ v, G f t = v := ⟨_, rfl⟩
                      obtain ⟨v2, hv2⟩ : ∃ v, G f o = v := ⟨_, rfl⟩
                      obtain ⟨v3, hv3⟩ : ∃ v, G o t = v := ⟨_, rfl⟩
                      rw [hv2, hv3] at hset
                      rw [hv1, hv2, hv3] at hstep
                      rw [hv1] at z3 hb1 hl1
                      rw [hv2] at z4 hb2 hl2
                      rw [hv3] at z5 hb3 hl3
                      have hw : IntKind.i64.wrap (v2 + v3) = v2 + v3 := IntWalk.i64_in _ (by omega)
                      have HSTEP := hid hstep
                      have HSET := hid hset
                      have HSAME := hid hsame
                      obtain ⟨bf, hbf⟩ : ∃ v, rb f = v := ⟨_, rfl⟩
                      rw [hbf] at z1 z3 z4 z6 HSET HLO HNF
                      clear hG hbn hnext3 hv1 hv2 hv3 hbf hset hsame hstep hc0 hb1 hb2 hb3 HTO
                      go_upto_region 19 with fail
                      refine wp_region_still_tail 17 (by kernel_rfl) (by kernel_rfl) ?_
                      simp only [List.take_succ_cons, List.take_zero, List.drop_succ_cons, List.drop_zero]
                      repeat still_step
                      refine wpStill_nil ?_
                      change wpList _ _ _ _ _ wr.drew
                      by_cases ha : 0 ≤ v2
                      · by_cases hb : 0 ≤ v3
                        · by_cases hv : v1 < 0
                          · have e : innF stepR Ff o f (t + 1) = upd G f t (v2 + v3) := by rw [HSTEP.out, if_pos (by omega)]
                            have HT6 : Hid (TO (wr.drew.setCell ⟨bf, t, none⟩ (.int .i64 (v2 + v3))) (w2.heap.size + 2) O i rb rc (innF stepR Ff o f (t + 1))) := hid (by
                              rw [e]
                              have hs := HSET.out
                              exact hs.kept (w' := wr.drew.setCell ⟨bf, t, none⟩ (.int .i64 (v2 + v3))) (fun b _ _ => rfl))
                            have HB6 : Hid (Below w2.heap.size w2 (wr.drew.setCell ⟨bf, t, none⟩ (.int .i64 (v2 + v3)))) := hid (HB4.out.drew.setCell (p := ⟨bf, t, none⟩) (by show w2.heap.size ≤ bf; have := HLO.out; omega) _)
                            have HX6 : Hid (Box2 (wr.drew.setCell ⟨bf, t, none⟩ (.int .i64 (v2 + v3))) pp 25 (.slice A1 i c1) (.slice (some ⟨O, 0, none⟩) i c3)) := hid ((HBX.out.next HB5.out).kept (heap_setCell_other _ _ _ _ (by show pp ≠ bf; exact fun h => HNF.out h.symm)))
                            clear HSTEP HSET HSAME e
                            go_wp2
                            go_roundw
                            case rel => exact ⟨t + 1, by go_num, by omega, HB6, HX6, HT6⟩
                            case measure => simp [RowKit.intOf]; omega
                          · by_cases hs : v2 + v3 < v1
                            · have e : innF stepR Ff o f (t + 1) = upd G f t (v2 + v3) := by rw [HSTEP.out, if_pos (by omega)]
                              have HT6 : Hid (TO (wr.drew.setCell ⟨bf, t, none⟩ (.int .i64 (v2 + v3))) (w2.heap.size + 2) O i rb rc (innF stepR Ff o f (t + 1))) := hid (by
                                rw [e]
                                have hs := HSET.out
                                exact hs.kept (w' := wr.drew.setCell ⟨bf, t, none⟩ (.int .i64 (v2 + v3))) (fun b _ _ => rfl))
                              have HB6 : Hid (Below w2.heap.size w2 (wr.drew.setCell ⟨bf, t, none⟩ (.int .i64 (v2 + v3)))) := hid (HB4.out.drew.setCell (p := ⟨bf, t, none⟩) (by show w2.heap.size ≤ bf; have := HLO.out; omega) _)
                              have HX6 : Hid (Box2 (wr.drew.setCell ⟨bf, t, none⟩ (.int .i64 (v2 + v3))) pp 25 (.slice A1 i c1) (.slice (some ⟨O, 0, none⟩) i c3)) := hid ((HBX.out.next HB5.out).kept (heap_setCell_other _ _ _ _ (by show pp ≠ bf; exact fun h => HNF.out h.symm)))
                              clear HSTEP HSET HSAME e
                              go_wp2
                              go_roundw
                              case rel => exact ⟨t + 1, by go_num, by omega, HB6, HX6, HT6⟩
                              case measure => simp [RowKit.intOf]; omega
                            · have e : innF stepR Ff o f (t + 1) = G := by rw [HSTEP.out, if_neg (by omega)]
                              have HT6 := hid (HSAME.out.next HB5.out)
                              rw [← e] at HT6
                              have HB6 := hid HB4.out.drew
                              have HX6 := hid (HBX.out.next HB5.out)
                              clear HSTEP HSET HSAME e
                              go_wp2
                              go_roundw
                              case rel => exact ⟨t + 1, by go_num, by omega, HB6, HX6, HT6⟩
                              case measure => simp [RowKit.intOf]; omega
                        · have e : innF stepR Ff o f (t + 1) = G := by rw [HSTEP.out, if_neg (by omega)]
                          have HT6 := hid (HSAME.out.next HB5.out)
                          rw [← e] at HT6
                          have HB6 := hid HB4.out.drew
                          have HX6 := hid (HBX.out.next HB5.out)
                          clear HSTEP HSET HSAME e
                          go_wp2
                          go_roundw
                          case rel => exact ⟨t + 1, by go_num, by omega, HB6, HX6, HT6⟩
                          case measure => simp [RowKit.intOf]; omega
                      · have e : innF stepR Ff o f (t + 1) = G := by rw [HSTEP.out, if_neg (by omega)]
                        have HT6 := hid (HSAME.out.next HB5.out)
                        rw [← e] at HT6
                        have HB6 := hid HB4.out.drew
                        have HX6 := hid (HBX.out.next HB5.out)
                        clear HSTEP HSET HSAME e
                        go_wp2
                        go_roundw
                        case rel => exact ⟨t + 1, by go_num, by omega, HB6, HX6, HT6⟩
                        case measure => simp [RowKit.intOf]; omega
                    · have hltz3 : ¬ (t : Int) < (i : Int) := by omega
                      obtain rfl : t = i := by omega
                      rw [hnext2.out] at HTO
                      go_wp2
                      go_roundw
                      case rel => exact ⟨f + 1, by go_num, by omega, HB4, HBX, HTO⟩
                      case measure => simp [RowKit.intOf]; omega
                · have hltz2 : ¬ (f : Int) < (i : Int) := by omega
                  obtain rfl : f = i := by omega
                  rw [hnext.out] at HTO
                  go_wp2
                  go_roundw
                  case rel => exact ⟨o + 1, by go_num, by omega, HB4, HBX, HTO⟩
                  case measure => simp [RowKit.intOf]; omega
            · have hltz : ¬ (o : Int) < (i : Int) := by omega
              obtain rfl : o = i := by omega
              obtain ⟨FF, hFF⟩ : ∃ F, outF stepR o F0 o = F := ⟨_, rfl⟩
              rw [hFF] at HTO
              have HFF : Hid (outF stepR o (funT R o) o = FF) := hid (by rw [HF0.out]; exact hFF)
              have HT7 := hid (HTO.out.congr (G := cutF FF 0 0) (fun a ha k hk => by unfold cutF; rw [if_neg (by omega)]))
              clear hFF HTO HBN HF0
              go_wp2
              go_loopw [13, 14] (fun av _ wr => ∃ a : Nat, av = .int .i64 (a : Int) ∧ a ≤ o ∧ Hid (Below w2.heap.size w2 wr) ∧ Hid (Box2 wr pp 25 (.slice A1 o c1) (.slice (some ⟨O, 0, none⟩) o c3)) ∧ Hid (TO wr (w2.heap.size + 2) O o rb rc (cutF FF a 0))) (fun av _ _ => o - (RowKit.intOf av).toNat)
              case atStart => exact ⟨0, rfl, Nat.zero_le _, HB4, HBX, HT7⟩
              case round =>
                clear HB4 HBX HT7
                obtain ⟨a, rfl, ha, HB4, HBX, HTO⟩ := hrel
                by_cases hlt2 : a < o
                · have hltz2 : (a : Int) < (o : Int) := by omega
                  go_wp2
                  go_loopw [14] (fun bv wr => ∃ b : Nat, bv = .int .i64 (b : Int) ∧ b ≤ o ∧ Hid (Below w2.heap.size w2 wr) ∧ Hid (Box2 wr pp 25 (.slice A1 o c1) (.slice (some ⟨O, 0, none⟩) o c3)) ∧ Hid (TO wr (w2.heap.size + 2) O o rb rc (cutF FF a b))) (fun bv _ => o - (RowKit.intOf bv).toNat)
                  case atStart => exact ⟨0, rfl, Nat.zero_le _, HB4, HBX, HTO⟩
                  case round =>
                    clear HB4 HBX HTO
                    obtain ⟨b, rfl, hb, HB4, HBX, HTO⟩ := hrel
                    by_cases hlt3 : b < o
                    · have hltz3 : (b : Int) < (o : Int) := by omega
                      have d1 : decide (o ≤ a) = false := decide_eq_false (by omega)
                      have d2 : decide (o ≤ b) = false := decide_eq_false (by omega)
                      have z1 := HTO.out.row a hlt2
                      have z3 := HTO.out.ent a hlt2 b hlt3
                      have z6 := HTO.out.fr a hlt2 b hlt3
                      obtain ⟨y0, y1⟩ := And.intro HBX.out.c0 HBX.out.c1
                      have hset := HTO.out.set hlt2 hlt3 (min (cutF FF a b a b) 24)
                      rw [cutF_step] at hset
                      rw [show min (cutF FF a b a b) 24 = if 24 < cutF FF a b a b then 24 else cutF FF a b a b by split <;> omega] at hset
                      have HSET := hid hset
                      have HB5 : Hid (Below wr.heap.size wr wr.drew) := hid ((Below.refl _ wr).drew)
                      have HLO := hid (HTO.out.lo a hlt2)
                      have HNF := hid (HNE.out a hlt2)
                      obtain ⟨v1, hv1⟩ : ∃ v, cutF FF a b a b = v := ⟨_, rfl⟩
                      rw [hv1] at z3 HSET
                      obtain ⟨bf, hbf⟩ : ∃ v, rb a = v := ⟨_, rfl⟩
                      rw [hbf] at z1 z3 z6 HSET HLO HNF
                      obtain ⟨m1, hm1⟩ : ∃ m, (if 24 < v1 then 24 else v1) = m := ⟨_, rfl⟩
                      rw [hm1] at HSET
                      have HM1 := hid hm1
                      have HM2 : Hid (min v1 24 = m1) := hid (by rw [← hm1]; split <;> omega)
                      have HT6 : Hid (TO (wr.setCell ⟨bf, b, none⟩ (.int .i64 m1)).drew (w2.heap.size + 2) O o rb rc (cutF FF a (b + 1))) := hid (HSET.out.next ((Below.refl _ _).drew))
                      have HB6 : Hid (Below w2.heap.size w2 (wr.setCell ⟨bf, b, none⟩ (.int .i64 m1)).drew) := hid ((HB4.out.setCell (p := ⟨bf, b, none⟩) (by show w2.heap.size ≤ bf; have := HLO.out; omega) _).drew)
                      have HX6 : Hid (Box2 (wr.setCell ⟨bf, b, none⟩ (.int .i64 m1)).drew pp 25 (.slice A1 o c1) (.slice (some ⟨O, 0, none⟩) o c3)) := hid ((HBX.out.kept (heap_setCell_other _ _ _ _ (by show pp ≠ bf; exact fun h => HNF.out h.symm))).next ((Below.refl _ _).drew))
                      clear hm1
                      clear hset hv1 hbf HSET HTO
                      go_upto_region 28 with fail
                      refine wp_region_still_tail 16 (by kernel_rfl) (by kernel_rfl) ?_
                      simp only [List.take_succ_cons, List.take_zero, List.drop_succ_cons, List.drop_zero]
                      repeat still_step
                      refine wpStill_nil ?_
                      change wpList _ _ _ _ _ wr.drew
                      go_wp2
                      go_roundw
                      case rel =>
                        first | rw [HM1.out] | rw [HM2.out]
                        exact ⟨b + 1, by go_num, by omega, HB6, HX6, HT6⟩
                      case measure => simp [RowKit.intOf]; omega
                    · have hltz3 : ¬ (b : Int) < (o : Int) := by omega
                      obtain rfl : b = o := by omega
                      have HT6 := hid (HTO.out.congr (G := cutF FF (a + 1) 0) (fun x hx y hy => by
                        unfold cutF
                        by_cases h : x < a ∨ (x = a ∧ y < b)
                        · rw [if_pos h, if_pos (by omega)]
                        · rw [if_neg h, if_neg (by omega)]))
                      clear HTO
                      go_wp2
                      go_roundw
                      case rel => exact ⟨a + 1, by go_num, by omega, HB4, HBX, HT6⟩
                      case measure => simp [RowKit.intOf]; omega
                · have hltz2 : ¬ (a : Int) < (o : Int) := by omega
                  obtain rfl : a = o := by omega
                  have hte := (HTO.out.congr (G := capF FF) (fun x hx y hy => by unfold cutF capF; rw [if_pos (.inl hx)])).tabIn
                  have hk3 := HK2.out.next HB4.out
                  have hn2 := HIN1.out.kept (w' := wr) (fun b hb => HB4.out.block b hb.2)
                  have hT : TravIn ((wr.setCell ⟨w.heap.size + 1, 0, none⟩ (.slice A1 a c1)).setCell ⟨w.heap.size + 1, 1, none⟩ (.slice (some ⟨O, 0, none⟩) a c3)) (fun b => w.heap.size ≤ b ∧ b < wr.heap.size) A1 (some ⟨O, 0, none⟩) (l, tabF (capF FF) a) := by
                    have hne : ∀ b, w.heap.size + 2 ≤ b → ((wr.setCell ⟨w.heap.size + 1, 0, none⟩ (.slice A1 a c1)).setCell ⟨w.heap.size + 1, 1, none⟩ (.slice (some ⟨O, 0, none⟩) a c3)).heap[b]? = wr.heap[b]? := fun b hb => by
                      rw [heap_setCell_other _ _ _ _ (by show b ≠ w.heap.size + 1; omega), heap_setCell_other _ _ _ _ (by show b ≠ w.heap.size + 1; omega)]
                    have hl := HK1L.out
                    have hl2 := HB4.out.size
                    have hl3 := HW12.out
                    exact ⟨(hn2.kept (fun b hb => hne b (by omega))).mono (fun b hb => ⟨by omega, by omega⟩), (hte.kept (fun b hb => hne b (by omega))).mono (fun b hb => ⟨by omega, hb.2⟩)⟩
                  have HT3 := hid hT
                  have HK3 := hid hk3
                  obtain ⟨r0, r1⟩ := And.intro hk3.r.c0 hk3.r.c1
                  have f0 := hk3.r.free 0
                  have f1 := hk3.r.free 1
                  obtain ⟨y0, y1⟩ := And.intro HBX.out.c0 HBX.out.c1
                  clear hk3 hT hte hn2
                  go_wp2
                  rw [HFF.out]
                  refine close_end (A := A1) (S := some ⟨O, 0, none⟩) (c := c1) (d := c3) (p := 2) (u := 3) rfl rfl rfl rfl ?_ ?_ ?_
                  · dsimp only
                    rw [tabF_len, HNL.out]
                    exact HK3.out.r.set _ _
                  · refine HT3.out.mono fun b hb => ⟨hb.1, by simpa using hb.2⟩
                  · exact (HK3.out.g.b.setCell (p := ⟨w.heap.size + 1, 0, none⟩) (by show w.heap.size ≤ w.heap.size + 1; omega) _).setCell (p := ⟨w.heap.size + 1, 1, none⟩) (by show w.heap.size ≤ w.heap.size + 1; omega) _
  · have hcm : closeM (l, R) = (([], []), E) := by unfold closeM; rw [hE, if_pos hE0]
    rw [hcm]
    have hR1 : (E != 0) = true := by simpa using hE0
    have hR2 : (E == 0) = false := by simpa using hE0
    clear hE hcm
    go_enter Tryd.func9, Tryd.ntmps9
    go_upto_region 1 with fail
    (try rw [hwa])
    clear hwa
    go_wp2_with fail
    refine (CV.out _ HK.out.g.b).mono ?_
    rintro e w1 ⟨rfl, hb⟩
    have HK1 := hid (HK.out.next hb)
    clear hb HK CV x0 x1
    obtain ⟨r0, r1⟩ := And.intro HK1.out.r.c0 HK1.out.r.c1
    have f0 := HK1.out.r.free 0
    have f1 := HK1.out.r.free 1
    go_wp2
    exact close_end (A := none) (S := none) (c := 0) (d := 0) (p := 2) (u := 3) rfl rfl rfl rfl (HK1.out.r.set _ _) ⟨.inl rfl, .inl rfl⟩ ((HK1.out.g.b.setCell (p := ⟨w.heap.size + 1, 0, none⟩) (by show w.heap.size ≤ w.heap.size + 1; omega) _).setCell (p := ⟨w.heap.size + 1, 1, none⟩) (by show w.heap.size ≤ w.heap.size + 1; omega) _)
end Go.Proofs.YtocmbifljkcmeaaDoor
