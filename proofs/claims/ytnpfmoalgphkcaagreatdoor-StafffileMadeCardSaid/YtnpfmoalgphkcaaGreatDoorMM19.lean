/-
  The walk of Dice.OddStaff. Conditions: dice in memory; the lecturers lie in a row that was made behind the dice.
-/
import Derived.Test.YtnpfmoalgphkcaaGreatDoorMM01
import Derived.Test.YtnpfmoalgphkcaaGreatDoorMM02
import Derived.Test.YtnpfmoalgphkcaaGreatDoorMM03
import Derived.Test.YtnpfmoalgphkcaaGreatDoorMM04
import Derived.Test.YtnpfmoalgphkcaaGreatDoorMM05
import Derived.Test.YtnpfmoalgphkcaaGreatDoorMM06
import Derived.Test.YtnpfmoalgphkcaaGreatDoorMM07
import Derived.Test.YtnpfmoalgphkcaaGreatDoorMM08
import Derived.Test.YtnpfmoalgphkcaaGreatDoorMM09
import Derived.Test.YtnpfmoalgphkcaaGreatDoorMM10
import Derived.Test.YtnpfmoalgphkcaaGreatDoorMM11
import Derived.Test.YtnpfmoalgphkcaaGreatDoorMM12
import Derived.Test.YtnpfmoalgphkcaaGreatDoorMM13
import Derived.Test.YtnpfmoalgphkcaaGreatDoorMM16
import Derived.Test.YtnpfmoalgphkcaaGreatDoorMM17
import Derived.Test.YtnpfmoalgphkcaaGreatDoorMM18
import Derived.Test.YtnpfmoalgphkcaaGreatDoorProg
import Derived.WalkKit
import Derived.WalkSpells
import Derived.WalkLawsBesides
import Derived.Lib.Hide
import Derived.Deep.QuietTactic
import Derived.BigQuiet
import Derived.Laws.Rows
import Derived.OwnWalk
import Derived.Lib.BufferWrite
import Derived.Lib.UnsafeStr
import Derived.Laws.IdiomStrings
import Derived.Laws.BytesArg
import Derived.Laws.BytesString
import Derived.Laws.OwnMore
import Derived.Lib.IndexLaws
import Derived.Lib.ItoaNum
import Derived.Lib.Atoi
import Derived.Lib.Bytealg
import Derived.Maps.OwnSet
import Derived.Maps.Range
import Derived.Deep.RegionLaw
import Derived.Deep.RegionHeld3
import Derived.Handy
import Derived.Laws.BitsAllLaws
import Derived.Laws.BitsLemmas
import Derived.Deep.MidRow
import Derived.Shelf.Strings.Builder1
import Derived.Shelf.Strings.Builder2
import Derived.Shelf.Strings.OnBuilder
import Derived.Shelf.Strings.BuilderF
import Derived.Shelf.Strings.BuilderK
import Derived.Shelf.Strings.Builder2Cap
import Derived.Shelf.Strconv.Atoi
import Derived.Shelf.Strconv.Itoa0
import Derived.Shelf.Strconv.Itoa1
import Derived.Shelf.LaysM
import Derived.Shelf.Strconv.Itoa2
import Derived.Shelf.Strconv.Itoa3
import Derived.Shelf.Strconv.AtoiErrFast
import Derived.Shelf.Strconv.ParseIntEmpty
import Derived.Shelf.Strconv.AtoiFail
import Derived.Shelf.Strconv.Clone
import Derived.Shelf.Strconv.SyntaxError
import Derived.Shelf.LaysC
import Derived.Shelf.Strconv.ToError
import Derived.Shelf.Strconv.AtoiErr
import Derived.Shelf.Strings.Search1
import Derived.Shelf.Strings.Search2
import Derived.Shelf.Strings.Search3
import Derived.Shelf.Strings.Cut
import Derived.Shelf.Strings.Shaped
import Derived.Shelf.Strings.Prefix
import Derived.Shelf.Unicode.DecodeSlow
import Derived.Shelf.Strings.BuilderCap
import Derived.Lib.AtoiErrMem
import Derived.RangeFuncNested
import Derived.RangeFuncBound
import Derived.RangeFuncCalls
import Derived.RangeFuncLeaves
import Derived.Shelf.Abstract
import Derived.Shelf.RegionOpen
import Derived.OwnWalkIn
import Derived.Lib.SlTrimSet
import Derived.Shelf.Strings.SlTrimAscii
import Derived.Laws.ResultCell
import Derived.RegionTactic
import Derived.Lib.Repeat
import Derived.Lib.SlicesS
import Derived.TacticsInMore
import Derived.LoopNIn
import Derived.LoopIn
import Derived.Deep.DeepCutAuto
import Derived.Lib.Join
import Derived.Laws.Concat
import Derived.Sort.EncStr
import Derived.IntWalk
import Derived.Maps.AppendAt
import Derived.Deep.AppendLies
set_option linter.unusedVariables false
namespace Go.Proofs.YtnpfmoalgphkcaaGreatDoor
open Go Go.Proofs Go.RowKit Go.Lib
theorem wpList_append_none {P : Program} {w : World} {ops : Array Oper} {rest : List Oper} {o : Oper} {a : Act} {Q : Exit → Act → World → Prop} (hgd : o.guard = none) (s x : Operand) (t : TypeId)
    (ho : o.op = .call { callee := .builtin .append, args := #[s, x], argTypes := #[t, t] })
    (base : Nat) (e : TypeId) (i : TypeInfo) (size : Nat) (ht : P.underlying t = some (.slice e)) (hi : P.info? e = some i)
    (v : Value) (n : Nat) (xs : List Value) (hs : a.eval s = v) (hown : w.ownsRow base e size v n xs) (hx : a.eval x = .slice none 0 0)
    (h : wpList P ops Q rest (a.put o.dst v) w) : wpList P ops Q (o :: rest) a w := by
  refine wpList_plain hgd fun K hK => ?_
  have hr := run_append_owned_none (P := P) (w := w) base t o.type e i size ht hi v n xs hown
  unfold Oper.wp execOp
  simp only [ho, resolve, invoke, builtin, Sem.run_bind, Sem.run_pure, Result.andThen_ok, List.map_toArray, List.map_cons, List.map_nil, hs, hx, hr]
  exact hK _ _ h
theorem strs3 (w : World) (X Y Z : ByteArray) (r : Nat) (hr : r < 3) : ∃ S : ByteArray, (w.alloc (.cells #[.string X, .string Y, .string Z] 9)).cell? ⟨w.heap.size, r, none⟩ = some (.string S) := by
  have h := heap_alloc_new w (.cells #[.string X, .string Y, .string Z] 9)
  rcases (show r = 0 ∨ r = 1 ∨ r = 2 by omega) with rfl | rfl | rfl
  · exact ⟨X, by rw [Lib.cell_of_heap h]; rfl⟩
  · exact ⟨Y, by rw [Lib.cell_of_heap h]; rfl⟩
  · exact ⟨Z, by rw [Lib.cell_of_heap h]; rfl⟩
set_option maxHeartbeats 16000000 in
set_option maxRecDepth 100000 in
theorem oddStaff_any (g c k B : Nat) (A : Option Addr) (L : List Int) (LL : List (LectD × LectA)) (v : Value) (w : World) (h : DiceAt w g A L c k)
    (hrow : w.ownsRow B 34 2 v LL.length (lectVals LL)) (hB : g < B) (hr : ∀ p ∈ LL, LectIn w (fun k => g < k ∧ k < w.heap.size) p.1 p.2) (hlen : LL.length ≤ 100) :
    Calls Tryz.prog 27 #[.pointer (some ⟨g, 0, none⟩), v] w (OddP g c A L w) := by
  obtain ⟨i5, hi5, hz5, hsi5, hby5⟩ := info_parts infoLect
  have HN : Hid (∀ (W : World) (q : Int), 1 ≤ q → q ≤ 4294967296 → (∃ k, DiceAt W g A L c k) → Calls Tryz.prog 23 #[.pointer (some ⟨g, 0, none⟩), .int .i64 q] W fun e w' => ∃ r : Nat, e = .returned (.int .i64 (r : Int)) ∧ (r : Int) < q ∧ ∃ k', DE W g c A L k' w') := hid (fun W q hq hq2 ⟨k, hd⟩ => by
    refine (next_any g c k A L q hq2 W hd).mono ?_
    rintro e w' ⟨⟨r, rfl, hr⟩, ⟨k', hd'⟩, hR⟩
    obtain ⟨hr0, hr1⟩ := hr hq
    obtain ⟨q0, rfl⟩ : ∃ q : Nat, r = (q : Int) := ⟨r.toNat, by omega⟩
    exact ⟨q0, rfl, hr1, k', (DE.first hd).next hd' hR⟩)
  have hgl := h.lt
  rcases Nat.eq_zero_or_pos LL.length with h0 | h0
  · obtain rfl : LL = [] := List.eq_nil_of_length_eq_zero h0
    have hv : v = .slice none 0 0 ∨ ∃ gv cap, v = .slice (some ⟨gv, 0, none⟩) 0 cap := by
      rcases hrow.2 with ⟨hv, _⟩ | ⟨gv, cap, cur, hv, _⟩
      · exact .inl hv
      · exact .inr ⟨gv, cap, hv⟩
    have HD := hid h
    clear h hrow hr h0 hlen
    have fin : ∀ (W : World) (S : ByteArray) (k' : Nat), DE w g c A L k' W → OddP g c A L w (.returned (.slice (some ⟨W.heap.size, 0, none⟩) 1 1)) (W.alloc (.cells #[.string S, .slice none 0 0] 34)) := fun W S k' he => by
      have hz := he.p.size
      have hb2 := Box2.new W (.string S) (.slice none 0 0)
      obtain ⟨b0, b1⟩ := hb2.cells
      refine ⟨[(lst S, [])], some ⟨W.heap.size, 0, none⟩, 1, rfl, by simp, .inr ⟨W.heap.size, 0, rfl, ⟨by omega, hb2.lt⟩, fun j x hj => ?_⟩, k', he.alloc _⟩
      match j, hj with
      | 0, hj =>
        obtain rfl : (lst S, []) = x := by simpa using hj
        refine ⟨(none, 0), ⟨TimesIn.nil _ _ _, Nat.le_refl _, by decide⟩, fun i v hv => ?_⟩
        match i, hv with
        | 0, hv => simp [lectVs] at hv; subst hv; exact b0
        | 1, hv => simp [lectVs] at hv; subst hv; exact b1
        | i + 2, hv => simp [lectVs] at hv
      | j + 1, hj => simp at hj
    have FIN := hid fin
    clear fin
    rcases hv with rfl | ⟨gv, cap, rfl⟩
    · go_enter Tryz.func27, Tryz.ntmps27
      go_wp2_with (at_builtin; refine wpList_append_none rfl _ _ 22 rfl w.heap.size 34 i5 2 Tryz.underlying22 hi5 (.slice none 0 0) 0 [] rfl (World.ownsRow_nil _ _ _ _) rfl ?_)
      go_wp2_with fail
      have hd2 := (DE.first HD.out).alloc (.cells #[.string ⟨#[]⟩, .string ⟨#[97]⟩, .string ⟨#[95, 97]⟩] 9)
      refine (HN.out _ 3 (by omega) (by omega) ⟨_, hd2.d⟩).mono ?_
      rintro e w2 ⟨r, rfl, hr3, k2, he2⟩
      obtain ⟨S, hS⟩ := strs3 w ⟨#[]⟩ ⟨#[97]⟩ ⟨#[95, 97]⟩ r (by omega)
      have hS2 : w2.cell? ⟨w.heap.size, r, none⟩ = some (.string S) := (World.cell?_of_block (w := w.alloc (.cells #[.string ⟨#[]⟩, .string ⟨#[97]⟩, .string ⟨#[95, 97]⟩] 9)) (he2.p.block _ (by simp) (by show w.heap.size ≠ g; omega))).trans hS
      have hDE := hid (hd2.trans he2)
      have hr3n : r < 3 := by omega
      clear hd2 he2 hS
      go_wp2
      go_ret
      exact FIN.out _ S _ hDE.out
    · go_enter Tryz.func27, Tryz.ntmps27
      go_wp2_with fail
      have hd2 := (DE.first HD.out).alloc (.cells #[.string ⟨#[]⟩, .string ⟨#[97]⟩, .string ⟨#[95, 97]⟩] 9)
      refine (HN.out _ 3 (by omega) (by omega) ⟨_, hd2.d⟩).mono ?_
      rintro e w2 ⟨r, rfl, hr3, k2, he2⟩
      obtain ⟨S, hS⟩ := strs3 w ⟨#[]⟩ ⟨#[97]⟩ ⟨#[95, 97]⟩ r (by omega)
      have hS2 : w2.cell? ⟨w.heap.size, r, none⟩ = some (.string S) := (World.cell?_of_block (w := w.alloc (.cells #[.string ⟨#[]⟩, .string ⟨#[97]⟩, .string ⟨#[95, 97]⟩] 9)) (he2.p.block _ (by simp) (by show w.heap.size ≠ g; omega))).trans hS
      have hDE := hid (hd2.trans he2)
      have hr3n : r < 3 := by omega
      clear hd2 he2 hS
      go_wp2
      go_ret
      exact FIN.out _ S _ hDE.out
  · obtain ⟨gv, cap, rfl, hBg, hgs⟩ := World.ownsRow.form hrow h0
    have HCV := hid (hrow.cells (g := gv) rfl)
    obtain ⟨n, hn⟩ : ∃ n, LL.length = n := ⟨_, rfl⟩
    have HCP := hid (fun (v' : Value) (w' : World) (hown : w'.ownsRow w.heap.size 34 2 v' LL.length (lectVals LL)) (hg : w.grownBy w' none) => OS.copy h hr hown hg)
    rw [hn] at HCP h0 hlen ⊢
    have HLL := hid hn
    have HM1 : Hid (0 + n ≤ maxLen) := hid (by unfold maxLen; omega)
    have HM2 : Hid ((0 + n) * 40 ≤ 140737488355328) := hid (by omega)
    have HM3 : Hid (n + 1 ≤ maxLen) := hid (by unfold maxLen; omega)
    have HM4 : Hid ((n + 1) * 40 ≤ 140737488355328) := hid (by omega)
    have HVL : Hid ((lectVals LL).length = n * 2) := hid (by rw [lectVals_len, hn])
    clear h hrow hr hn
    go_enter Tryz.func27, Tryz.ntmps27
    go_wp2_with (at_builtin; refine wpList_append_own_at _ rfl _ _ 22 rfl w.heap.size 34 i5 (.agg #[.string ⟨#[]⟩, .slice none 0 0]) 2 40 Tryz.underlying22 hi5 hz5 hsi5 hby5 rfl (by decide) (.slice none 0 0) 0 [] rfl (World.ownsRow_nil _ _ _ _) ⟨gv, 0, none⟩ n cap (lectVals LL) rfl HVL.out HCV.out (lectVals_one LL) HM1.out HM2.out (Nat.le_refl _) ?_)
    intro v' w1 hown hgrow hnil hat
    obtain ⟨g1, cap1, rfl, hg1w, hg1s⟩ := World.ownsRow.form hown h0
    have HOS := hid (HCP.out _ _ hown hgrow)
    clear hown hgrow hnil hat HCP HCV HM1 HM2 HVL
    have hne : ((n : Int) == 0) = false := by simp; omega
    go_wp2_with fail
    refine (HN.out _ (n : Int) (by omega) (by omega) HOS.out.dice).mono ?_
    rintro e w2 ⟨k1, rfl, hk1, kk2, he2⟩
    have HOS2 := hid (HOS.out.played he2)
    clear he2 HOS
    have hk1n : k1 < n := by omega
    go_wp2_with fail
    refine (HN.out _ 3 (by omega) (by omega) HOS2.out.dice).mono ?_
    rintro e w3 ⟨r, rfl, hr3, kk3, he3⟩
    have HOS3 := hid (HOS2.out.played he3)
    clear he3 HOS2
    have hkl : k1 < LL.length := by rw [HLL.out]; exact hk1n
    have hrow3 := HOS3.out.row
    rw [HLL.out] at hrow3
    have hf0 := own_free hrow3 (k1 * 2)
    have hf1 := own_free hrow3 (k1 * 2 + 1)
    have hc0 := hrow3.cells (g := g1) rfl (k1 * 2) _ (lectVals_get LL k1 _ (List.getElem?_eq_getElem hkl) 0 _ rfl)
    have hc1 := hrow3.cells (g := g1) rfl (k1 * 2 + 1) _ (lectVals_get LL k1 _ (List.getElem?_eq_getElem hkl) 1 _ rfl)
    rw [Addr.add_lit, Nat.zero_add] at hc0 hc1
    have HROW := hid hrow3
    clear hrow3
    rcases (show r = 0 ∨ r = 1 ∨ r = 2 by omega) with rfl | rfl | rfl
    · have HF : Hid (OddP g c A L w (.returned (.slice (some ⟨g1, 0, none⟩) n cap1)) (w3.setCell ⟨g1, k1 * 2, none⟩ (.string ⟨#[97, 32, 98]⟩))) := hid (OS.fin (OS.store HOS3.out HLL.out.symm h0 (lectVals_set0 LL k1 hkl [97, 32, 98]) (by simp) (fun p hp => by
        rcases List.mem_or_eq_of_mem_set hp with h | rfl
        · exact .inl h
        · have h1 := HOS3.out.r _ (List.getElem_mem hkl)
          exact .inr ⟨(h1.mono (fun k hk => ⟨hk.1, hk.2.1, fun e => hk.2.2 (by rw [e]; rfl)⟩)).t, h1.t1, h1.t2⟩)) (by rw [List.length_set, HLL.out]; omega))
      go_wp2
      go_ret
      exact HF.out
    · have HT := hid (fun (W : World) (h : ∃ k, DiceAt W g A L c k) => (h.elim fun k hd => oddTime_any g c k A L 1 0 0 1 (by unfold Small4; omega) W hd))
      go_wp2_with fail
      refine (HT.out _ HOS3.out.dice).mono ?_
      rintro e w4 ⟨ta, ty, tt, tu, k4, rfl, hsm, he4⟩
      have HOS4 := hid (HOS3.out.played he4)
      have htt : tt ≤ 9223372036854775807 := by have := hsm.2.2.1; omega
      obtain ⟨W, hW⟩ : ∃ W, w4.alloc (.cells #[.int .i64 ta, .int .i64 ty, .int .i64 tt, .int .i64 tu] 26) = W := ⟨_, rfl⟩
      have hts := fun P hP => time_single w4 ta ty tt tu htt P hP
      have hzW : W.heap.size = w4.heap.size + 1 := by rw [← hW]; simp
      rw [hW] at hts
      have HOW : Hid (OS w g c A L LL (.slice (some ⟨g1, 0, none⟩) n cap1) W) := hid (by rw [← hW]; exact HOS4.out.next ((Below.refl _ w4).alloc (Nat.le_refl _) _))
      have hg4 := (World.ownsRow.lt HOS4.out.row g1 rfl)
      have hgg := HOS4.out.g0
      have hrowW := HOW.out.row
      rw [HLL.out] at hrowW
      have hf1 := own_free hrowW (k1 * 2 + 1)
      have hc1 := hrowW.cells (g := g1) rfl (k1 * 2 + 1) _ (lectVals_get LL k1 _ (List.getElem?_eq_getElem hkl) 1 _ rfl)
      rw [Addr.add_lit, Nat.zero_add] at hc1
      have HF : Hid (OddP g c A L w (.returned (.slice (some ⟨g1, 0, none⟩) n cap1)) (W.setCell ⟨g1, k1 * 2 + 1, none⟩ (.slice (some ⟨w4.heap.size, 0, none⟩) 1 1))) := hid (OS.fin (OS.store HOW.out HLL.out.symm h0 (lectVals_set1 LL k1 hkl [(ta, ty, tt, tu)] (some ⟨w4.heap.size, 0, none⟩, 1)) (by simp) (fun p hp => by
        rcases List.mem_or_eq_of_mem_set hp with h | rfl
        · exact .inl h
        · exact .inr ⟨hts _ ⟨by omega, by omega, by omega⟩, Nat.le_refl _, by show (1 : Nat) ≤ _; omega⟩)) (by rw [List.length_set, HLL.out]; omega))
      clear hsm he4 hts hrowW HOW HOS4 HOS3 HROW hf0 hc0
      go_wp2
      go_ret
      exact HF.out
    · obtain ⟨p, hp⟩ : ∃ p, LL[k1] = p := ⟨_, rfl⟩
      have hpm : p ∈ LL := by rw [← hp]; exact List.getElem_mem hkl
      rw [hp] at hc0 hc1
      have hpc : Hid (∀ (j : Nat) (u : Value), [Value.string (ba p.1.1), .slice p.2.1 p.1.2.length p.2.2][j]? = some u → (w3.alloc (.cells #[.string (ba p.1.1), .slice p.2.1 p.1.2.length p.2.2] 34)).cell? ((⟨w3.heap.size, 0, none⟩ : Addr).add j) = some u) := hid (lect_cells w3 _ _)
      have HZ : Hid (w.heap.size ≤ (w3.alloc (.cells #[.string (ba p.1.1), .slice p.2.1 p.1.2.length p.2.2] 34)).heap.size) := hid (by obtain ⟨_, h0⟩ := HOS3.out.e; have := h0.p.size; simp; omega)
      have HON := hid (S9.lect_one p.1 p.2)
      have HOW := hid (HOS3.out.next ((Below.refl _ w3).alloc (Nat.le_refl _) (.cells #[.string (ba p.1.1), .slice p.2.1 p.1.2.length p.2.2] 34)))
      have hrowW := HOW.out.row
      rw [HLL.out] at hrowW
      have HRW := hid hrowW
      clear hrowW
      go_wp2_with (at_builtin; refine wpList_append_own_at _ rfl _ _ 22 rfl w.heap.size 34 i5 (.agg #[.string ⟨#[]⟩, .slice none 0 0]) 2 40 Tryz.underlying22 hi5 hz5 hsi5 hby5 rfl (by decide) (.slice (some ⟨g1, 0, none⟩) n cap1) n (lectVals LL) rfl HRW.out ⟨w3.heap.size, 0, none⟩ 1 1 [Value.string (ba p.1.1), .slice p.2.1 p.1.2.length p.2.2] rfl rfl hpc.out HON.out HM3.out HM4.out HZ.out ?_)
      intro v' w5 hown hgrow hnil hat
      have HF : Hid (OddP g c A L w (.returned v') w5) := hid (OS.fin (OS.app HOW.out hpm (by rw [HLL.out]; exact hown) hgrow (by simpa using hat)) (by simp; have := HLL.out; omega))
      clear hown hgrow hnil hat HRW HOW HOS3 HROW
      go_wp2
      go_ret
      exact HF.out
end Go.Proofs.YtnpfmoalgphkcaaGreatDoor
