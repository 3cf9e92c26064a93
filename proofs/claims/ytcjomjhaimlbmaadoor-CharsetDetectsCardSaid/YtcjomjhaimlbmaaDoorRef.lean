/-
  What the reference's Decode returns, for any bytes in any encoding. Condition: the slice's length is within its capacity.
-/
import Derived.Test.YtcjomjhaimlbmaaDoorStep
import Derived.Test.YtcjomjhaimlbmaaDoorS1
import Derived.Lib.AppendStr
import Derived.Lib.Hide
set_option linter.unusedVariables false
namespace Go.Proofs.YtcjomjhaimlbmaaDoor
open Go Go.Proofs Go.RowKit Go.Lib

/-- In the middle of the reference's decoding: the row ov holds acc, the list dv holds ds. -/
def MidR (W : World) (acc : List UInt8) (ov dv : Value) (ds : List (Nat × UInt8)) (wr : World) : Prop :=
  wr.ownsRow W.heap.size 5 1 ov acc.length (byteCells acc) ∧ Dmg wr W.heap.size dv ds ∧ Below W.heap.size W wr
theorem MidR.start (w : World) : MidR w [] (.slice none 0 0) (.slice none 0 0) [] w := ⟨World.ownsRow_nil _ _ _ _, Dmg.nil _ _, Below.refl _ _⟩
theorem row_kind {w : World} {B : Nat} {e : TypeId} {s : Nat} {v : Value} {n : Nat} {xs : List Value} (h : w.ownsRow B e s v n xs) : ∀ g, v.ownBlock = some g → ∃ c, w.heap[g]? = some (.cells c e (0, 0)) := by
  intro g hg
  rcases h.2 with ⟨rfl, _⟩ | ⟨g', cap, cur, rfl, _, hgg, _⟩
  · simp [Value.ownBlock] at hg
  · simp [Value.ownBlock] at hg
    subst hg
    exact ⟨cur, hgg⟩
theorem rows_apart {w : World} {B B' : Nat} {e e' : TypeId} {s s' : Nat} {v v' : Value} {n n' : Nat} {xs xs' : List Value} (h : w.ownsRow B e s v n xs) (h' : w.ownsRow B' e' s' v' n' xs') (hne : e ≠ e') : v.ownBlock = none ∨ v.ownBlock ≠ v'.ownBlock := by
  by_cases hn : v.ownBlock = none
  · exact .inl hn
  · refine .inr fun e => ?_
    obtain ⟨g, hg⟩ := Option.ne_none_iff_exists'.1 hn
    obtain ⟨c, hc⟩ := row_kind h g hg
    obtain ⟨c', hc'⟩ := row_kind h' g (by rw [← e]; exact hg)
    rw [hc] at hc'
    injection hc' with hc'
    injection hc' with _ ht _
    exact hne ht
theorem grownBy_of_alloc {wr w2 : World} {o : Obj} {row : Option Nat} (hg : (wr.alloc o).grownBy w2 row) : wr.grownBy w2 row :=
  ⟨hg.os, hg.tape, hg.output, by have := hg.size; simp at this; omega, fun k hk hr => (hg.block k (by simp; omega) hr).trans (Below.heap_alloc wr o k hk)⟩
theorem MidR.bytes {W wr w2 : World} {acc new : List UInt8} {ov ov' dv : Value} {ds : List (Nat × UInt8)} (h : MidR W acc ov dv ds wr) {m : Nat} (hm : m = new.length)
    (hown : w2.ownsRow W.heap.size 5 1 ov' (acc.length + m) (byteCells acc ++ byteCells new)) (hg : wr.grownBy w2 ov.ownBlock) : MidR W (acc ++ new) ov' dv ds w2 := by
  obtain ⟨h1, h2, h3⟩ := h
  refine ⟨?_, h2.kept hg (rows_apart h2 h1 (by decide)), h3.grown hg h3.size (fun k hk => (h1.lt k hk).1)⟩
  rw [byteCells_append, List.length_append, ← hm]
  exact hown
theorem MidR.damage {W wr w2 : World} {acc : List UInt8} {ov dv v' : Value} {ds : List (Nat × UInt8)} (h : MidR W acc ov dv ds wr) {o : Obj} (k x : Nat) (y : UInt8) (hy : y.toNat = x)
    (hown : w2.ownsRow W.heap.size 37 2 v' (ds.length + 1) (dmgCells ds ++ [.int .i64 (k : Int), .int .i64 (x : Int)])) (hg : (wr.alloc o).grownBy w2 dv.ownBlock) : MidR W acc ov v' (ds ++ [(k, y)]) w2 := by
  obtain ⟨h1, h2, h3⟩ := h
  have hg' := grownBy_of_alloc hg
  refine ⟨h1.kept hg' (rows_apart h1 h2 (by decide)), ?_, h3.grown hg' h3.size (fun k hk => (h2.lt k hk).1)⟩
  unfold Dmg
  rw [dmgCells_append]
  simp only [dmgCells, hy, List.length_append, List.length_cons, List.length_nil, Nat.zero_add]
  exact hown
theorem MidR.below {W wr w2 : World} {acc : List UInt8} {ov dv : Value} {ds : List (Nat × UInt8)} (h : MidR W acc ov dv ds wr) (hb : Below wr.heap.size wr w2) : MidR W acc ov dv ds w2 := by
  obtain ⟨h1, h2, h3⟩ := h
  exact ⟨h1.kept (row := none) ⟨hb.os, hb.tape, hb.output, hb.size, fun k hk _ => hb.block k hk⟩ (by cases ov.ownBlock <;> simp), h2.below hb, h3.trans (hb.mono h3.size)⟩
theorem owned_string {w : World} {B : Nat} {acc : List UInt8} {v : Value} (h : w.ownsRow B 5 1 v acc.length (byteCells acc)) : ∃ A c, v = .slice A acc.length c ∧ BIn w w.heap.size A acc := by
  rcases h.2 with ⟨hv, h0⟩ | ⟨g, cap, cur, hv, hB, hh, _⟩
  · exact ⟨none, 0, by rw [hv, h0], .inl (List.eq_nil_of_length_eq_zero h0)⟩
  · refine ⟨some ⟨g, 0, none⟩, cap, hv, .inr ⟨g, 0, rfl, (Array.getElem?_eq_some_iff.1 hh).1, fun j u hu => ?_⟩⟩
    have := World.ownsRow.cells h (g := g) (by rw [hv]; rfl) j (.int .u8 (u.toNat : Int)) (by simp [byteCells, hu])
    rwa [Addr.add_lit] at this
theorem bytes_one (l : List UInt8) : ∀ u ∈ byteCells l, u.oneCell' = true := by
  intro u hu
  obtain ⟨b, _, rfl⟩ := List.mem_map.1 hu
  rfl
theorem two_one (a b : IntKind) (x y : Int) : ∀ u ∈ [Value.int a x, Value.int b y], u.oneCell' = true := by
  intro u hu
  simp at hu
  rcases hu with rfl | rfl <;> rfl
theorem enc_bad : encN 65533 = [239, 191, 189] := by decide

set_option maxHeartbeats 1000000 in
theorem refDecode_unknown (A : Option Addr) (n c : Nat) (k : Int) (h : k < 1 ∨ 3 < k) (w : World) :
    Calls Tryd.prog 9 #[.slice A n c, .int .i64 k] w (Dec3 w [] [] 6) := by
  by_cases h1 : k < 1
  · go_enter Tryd.func9, Tryd.ntmps9
    go_wp2
    go_ret3
    exact ⟨_, rfl, Dmg.nil _ _, Below.refl _ _⟩
  · have h3 : 3 < k := by omega
    go_enter Tryd.func9, Tryd.ntmps9
    go_wp2
    go_ret3
    exact ⟨_, rfl, Dmg.nil _ _, Below.refl _ _⟩
set_option maxHeartbeats 1000000 in
theorem refDecode_large (A : Option Addr) (n c : Nat) (k : Int) (h1 : 1 ≤ k) (h3 : k ≤ 3) (hn : 65536 < n) (w : World) :
    Calls Tryd.prog 9 #[.slice A n c, .int .i64 k] w (Dec3 w [] [] 2) := by
  have hnz : (65536 : Int) < (n : Int) := by omega
  go_enter Tryd.func9, Tryd.ntmps9
  go_wp2
  go_ret3
  exact ⟨_, rfl, Dmg.nil _ _, Below.refl _ _⟩

set_option maxHeartbeats 2000000 in
set_option maxRecDepth 100000 in
theorem refDecode_1 (A : Option Addr) (l : List UInt8) (c : Nat) (hl : l.length ≤ 65536) (w : World) (hb : BIn w w.heap.size A l) :
    Calls Tryd.prog 9 #[.slice A l.length c, .int .i64 1] w (Dec3 w (textT (tokens 1 l)) (dmgT (tokens 1 l)) 0) := by
  obtain ⟨T, hT⟩ : ∃ T, textT (sings 127 0 l) = T := ⟨_, rfl⟩
  obtain ⟨D, hD⟩ : ∃ D, dmgT (sings 127 0 l) = D := ⟨_, rfl⟩
  show Calls _ _ _ _ (Dec3 w (textT (sings 127 0 l)) (dmgT (sings 127 0 l)) 0)
  rw [hT, hD]
  have HT := hid hT
  have HD := hid hD
  have hn : ¬ (65536 : Int) < (l.length : Int) := by omega
  clear hT hD
  obtain ⟨i37, hi, hz, hsi, hby⟩ := info_parts info37
  obtain ⟨i5, hi5, hz5, hsi5, hby5⟩ := info_parts info5
  go_enter Tryd.func9, Tryd.ntmps9
  go_wp2
  go_loopw [7, 8, 9] (fun ov dv i wr => ∃ (k : Nat) (acc : List UInt8) (ds : List (Nat × UInt8)), k ≤ l.length ∧ i = .int .i64 (k : Int) ∧ MidR w acc ov dv ds wr ∧ Hid (acc ++ textT (sings 127 k (l.drop k)) = T) ∧ Hid (ds ++ dmgT (sings 127 k (l.drop k)) = D) ∧ acc.length ≤ 4 * k ∧ ds.length ≤ k) (fun _ _ i _ => l.length - (RowKit.intOf i).toNat)
  case atStart => exact ⟨0, [], [], Nat.zero_le _, rfl, MidR.start w, hid HT.out, hid HD.out, by simp, by simp⟩
  case round =>
    obtain ⟨k, acc, ds, hk, rfl, hM, hacc, hds, hal, hdl⟩ := hrel
    have hbw := hM.2.2
    have hov := hM.1
    have hdm := hM.2.1
    have hsz : w.heap.size ≤ wr.heap.size := hbw.size
    by_cases hlt : k < l.length
    · obtain ⟨b, off, rfl, hbB, hcell0⟩ := hb.at_ hlt
      have hcell : wr.cell? ⟨b, off + k, none⟩ = some (.int .u8 (l[k].toNat : Int)) := (hbw.cell (p := ⟨b, off + k, none⟩) hbB).trans hcell0
      have hu8 := l[k].toNat_lt
      obtain ⟨x, hx⟩ : ∃ x, l[k].toNat = x := ⟨_, rfl⟩
      rw [hx] at hcell hu8
      have hx256 : x < 256 := hu8
      have HX := hid hx
      obtain ⟨S, hS⟩ : ∃ S, Utf8.encode (x : Int) = S := ⟨_, rfl⟩
      have hSl : S.data.toList = encN x := by rw [← hS, encode_encN]
      have hSz : S.size = (encN x).length := by rw [Lib.size_eq, hSl]
      have hS4 := (encN_len x).2
      have HSL := hid hSl
      have HSZ := hid hSz
      have hSb : S.size ≤ 4 := by omega
      clear hx hcell0 hb hu8 hSl hSz hS4
      by_cases hx128 : x < 128
      · have hxz : (x : Int) < 128 := by omega
        have hgood : ¬ (x > 127) := by omega
        have HS3 : Hid (acc.length + S.size ≤ maxLen) := by unfold maxLen; exact hid (by omega)
        have HS4 : Hid (acc.length + S.size ≤ 140737488355328) := hid (by omega)
        have HS5 : Hid (w.heap.size ≤ wr.heap.size) := hid hsz
        go_wp2_with (at_builtin; refine Lib.wpList_append_own_string _ rfl _ _ 22 9 rfl w.heap.size 5 i5 Tryd.underlying22 Tryd.underlying9 hi5 hz5 hsi5 hby5 _ acc.length (byteCells acc) rfl hov S rfl HS3.out HS4.out HS5.out ?_)
        intro v' w2 hown' hgrow _
        have hM2 := hM.bytes (new := encN x) HSZ.out (by rw [← HSL.out]; exact hown') hgrow
        have he4 := (encN_len x).2
        go_wp2
        go_roundw
        case rel =>
          have e1 := sings_at 127 k l hlt
          rw [if_neg (by rw [HX.out]; exact hgood), decide_eq_false (by rw [HX.out]; exact hgood), HX.out] at e1
          refine ⟨k + 1, _, _, by omega, by go_num, hM2, ?_, ?_, ?_, ?_⟩
          · have := hacc.out
            rw [e1, textT_cons] at this
            exact hid (by rw [List.append_assoc]; exact this)
          · have := hds.out
            rw [e1, dmgT_good] at this
            exact hid this
          · simp; omega
          · omega
        case measure => simp [RowKit.intOf]; omega
      · have hxz : ¬ (x : Int) < 128 := by omega
        have hbad : x > 127 := by omega
        have HC3 : Hid (ds.length + 1 ≤ maxLen) := by unfold maxLen; exact hid (by omega)
        have HC4 : Hid ((ds.length + 1) * 16 ≤ 140737488355328) := hid (by omega)
        have HC5 : Hid (∀ o : Obj, w.heap.size ≤ (wr.alloc o).heap.size) := hid (fun o => by have := hsz; simp; omega)
        go_wp2_with (at_builtin; refine wpList_append_own _ rfl _ _ 23 rfl w.heap.size 37 i37 (.agg #[.int .i64 0, .int .i64 0]) 2 16 Tryd.underlying23 hi hz hsi hby rfl (by decide) _ ds.length (dmgCells ds) rfl (World.ownsRow.alloc hdm _) ⟨wr.heap.size, 0, none⟩ 1 1 [.int .i64 (k : Int), .int .i64 (x : Int)] rfl rfl (cell_two_new _ _ _ _) (two_one _ _ _ _) HC3.out HC4.out (HC5.out _) ?_)
        intro v' w2 hown' hgrow _
        have hM2 := hM.damage k x l[k] HX.out hown' hgrow
        have hov2 := hM2.1
        have hsz2 : w.heap.size ≤ w2.heap.size := hM2.2.2.size
        have HS3 : Hid (acc.length + 3 ≤ maxLen) := by unfold maxLen; exact hid (by omega)
        have HS4 : Hid (acc.length + 3 ≤ 140737488355328) := hid (by omega)
        have HS5 : Hid (w.heap.size ≤ w2.heap.size) := hid hsz2
        go_wp2_with (at_builtin; refine Lib.wpList_append_own_string _ rfl _ _ 22 9 rfl w.heap.size 5 i5 Tryd.underlying22 Tryd.underlying9 hi5 hz5 hsi5 hby5 _ acc.length (byteCells acc) rfl hov2 ⟨#[239, 191, 189]⟩ rfl HS3.out HS4.out HS5.out ?_)
        intro v2 w3 hown2 hgrow2 _
        have hM3 := hM2.bytes (new := encN 65533) (by decide) hown2 hgrow2
        have he4 := (encN_len 65533).2
        go_wp2
        go_roundw
        case rel =>
          have e1 := sings_at 127 k l hlt
          rw [if_pos (by rw [HX.out]; exact hbad), decide_eq_true (by rw [HX.out]; exact hbad)] at e1
          refine ⟨k + 1, _, _, by omega, by go_num, hM3, ?_, ?_, ?_, ?_⟩
          · have := hacc.out
            rw [e1, textT_cons] at this
            exact hid (by rw [List.append_assoc]; exact this)
          · have := hds.out
            rw [e1, dmgT_bad] at this
            exact hid (by rw [List.append_assoc]; exact this)
          · simp; omega
          · simp; omega
        case measure => simp [RowKit.intOf]; omega
    · have hkl : k = l.length := by omega
      have e0 : sings 127 k (l.drop k) = [] := by rw [hkl, List.drop_length]; rfl
      have ea := hacc.out
      have ed := hds.out
      rw [e0] at ea ed
      simp only [textT, dmgT, List.flatMap_nil, List.filter_nil, List.map_nil, List.append_nil] at ea ed
      have EA := hid ea
      have ED := hid ed
      clear ea ed e0 hkl hb
      obtain ⟨A2, c2, rfl, hb2⟩ := owned_string hov
      have hcv := hb2.convert (P := Tryd.prog) c2 22 5 9 Tryd.underlying22 Tryd.underlying5 Tryd.underlying9
      clear hb2 hov
      go_wp2
      go_ret3
      obtain rfl : acc = T := EA.out
      obtain rfl : ds = D := ED.out
      exact ⟨_, rfl, hdm, hbw⟩

set_option maxHeartbeats 2000000 in
set_option maxRecDepth 100000 in
theorem refDecode_2 (A : Option Addr) (l : List UInt8) (c : Nat) (hl : l.length ≤ 65536) (w : World) (hb : BIn w w.heap.size A l) :
    Calls Tryd.prog 9 #[.slice A l.length c, .int .i64 2] w (Dec3 w (textT (tokens 2 l)) (dmgT (tokens 2 l)) 0) := by
  obtain ⟨T, hT⟩ : ∃ T, textT (sings 255 0 l) = T := ⟨_, rfl⟩
  obtain ⟨D, hD⟩ : ∃ D, dmgT (sings 255 0 l) = D := ⟨_, rfl⟩
  show Calls _ _ _ _ (Dec3 w (textT (sings 255 0 l)) (dmgT (sings 255 0 l)) 0)
  rw [hT, hD]
  have HT := hid hT
  have HD := hid hD
  have hn : ¬ (65536 : Int) < (l.length : Int) := by omega
  clear hT hD
  obtain ⟨i37, hi, hz, hsi, hby⟩ := info_parts info37
  obtain ⟨i5, hi5, hz5, hsi5, hby5⟩ := info_parts info5
  go_enter Tryd.func9, Tryd.ntmps9
  go_wp2
  go_loopw [7, 8, 9] (fun ov dv i wr => ∃ (k : Nat) (acc : List UInt8) (ds : List (Nat × UInt8)), k ≤ l.length ∧ i = .int .i64 (k : Int) ∧ MidR w acc ov dv ds wr ∧ Hid (acc ++ textT (sings 255 k (l.drop k)) = T) ∧ Hid (ds ++ dmgT (sings 255 k (l.drop k)) = D) ∧ acc.length ≤ 4 * k ∧ ds.length ≤ k) (fun _ _ i _ => l.length - (RowKit.intOf i).toNat)
  case atStart => exact ⟨0, [], [], Nat.zero_le _, rfl, MidR.start w, hid HT.out, hid HD.out, by simp, by simp⟩
  case round =>
    obtain ⟨k, acc, ds, hk, rfl, hM, hacc, hds, hal, hdl⟩ := hrel
    have hbw := hM.2.2
    have hov := hM.1
    have hdm := hM.2.1
    have hsz : w.heap.size ≤ wr.heap.size := hbw.size
    by_cases hlt : k < l.length
    · obtain ⟨b, off, rfl, hbB, hcell0⟩ := hb.at_ hlt
      have hcell : wr.cell? ⟨b, off + k, none⟩ = some (.int .u8 (l[k].toNat : Int)) := (hbw.cell (p := ⟨b, off + k, none⟩) hbB).trans hcell0
      have hu8 := l[k].toNat_lt
      obtain ⟨x, hx⟩ : ∃ x, l[k].toNat = x := ⟨_, rfl⟩
      rw [hx] at hcell hu8
      have hx256 : x < 256 := hu8
      have HX := hid hx
      obtain ⟨S, hS⟩ : ∃ S, Utf8.encode (x : Int) = S := ⟨_, rfl⟩
      have hSl : S.data.toList = encN x := by rw [← hS, encode_encN]
      have hSz : S.size = (encN x).length := by rw [Lib.size_eq, hSl]
      have hS4 := (encN_len x).2
      have HSL := hid hSl
      have HSZ := hid hSz
      have hSb : S.size ≤ 4 := by omega
      clear hx hcell0 hb hu8 hSl hSz hS4
      have hgood : ¬ (x > 255) := by omega
      by_cases hx128 : x < 128
      · have hxz : (x : Int) < 128 := by omega
        have HS3 : Hid (acc.length + S.size ≤ maxLen) := by unfold maxLen; exact hid (by omega)
        have HS4 : Hid (acc.length + S.size ≤ 140737488355328) := hid (by omega)
        have HS5 : Hid (w.heap.size ≤ wr.heap.size) := hid hsz
        go_wp2_with (at_builtin; refine Lib.wpList_append_own_string _ rfl _ _ 22 9 rfl w.heap.size 5 i5 Tryd.underlying22 Tryd.underlying9 hi5 hz5 hsi5 hby5 _ acc.length (byteCells acc) rfl hov S rfl HS3.out HS4.out HS5.out ?_)
        intro v' w2 hown' hgrow _
        have hM2 := hM.bytes (new := encN x) HSZ.out (by rw [← HSL.out]; exact hown') hgrow
        have he4 := (encN_len x).2
        go_wp2
        go_roundw
        case rel =>
          have e1 := sings_at 255 k l hlt
          rw [if_neg (by rw [HX.out]; exact hgood), decide_eq_false (by rw [HX.out]; exact hgood), HX.out] at e1
          refine ⟨k + 1, _, _, by omega, by go_num, hM2, ?_, ?_, ?_, ?_⟩
          · have := hacc.out
            rw [e1, textT_cons] at this
            exact hid (by rw [List.append_assoc]; exact this)
          · have := hds.out
            rw [e1, dmgT_good] at this
            exact hid this
          · simp; omega
          · omega
        case measure => simp [RowKit.intOf]; omega
      · have hxz : ¬ (x : Int) < 128 := by omega
        have HS3 : Hid (acc.length + S.size ≤ maxLen) := by unfold maxLen; exact hid (by omega)
        have HS4 : Hid (acc.length + S.size ≤ 140737488355328) := hid (by omega)
        have HS5 : Hid (w.heap.size ≤ wr.heap.size) := hid hsz
        go_wp2_with (at_builtin; refine Lib.wpList_append_own_string _ rfl _ _ 22 9 rfl w.heap.size 5 i5 Tryd.underlying22 Tryd.underlying9 hi5 hz5 hsi5 hby5 _ acc.length (byteCells acc) rfl hov S rfl HS3.out HS4.out HS5.out ?_)
        intro v' w2 hown' hgrow _
        have hM2 := hM.bytes (new := encN x) HSZ.out (by rw [← HSL.out]; exact hown') hgrow
        have he4 := (encN_len x).2
        go_wp2
        go_roundw
        case rel =>
          have e1 := sings_at 255 k l hlt
          rw [if_neg (by rw [HX.out]; exact hgood), decide_eq_false (by rw [HX.out]; exact hgood), HX.out] at e1
          refine ⟨k + 1, _, _, by omega, by go_num, hM2, ?_, ?_, ?_, ?_⟩
          · have := hacc.out
            rw [e1, textT_cons] at this
            exact hid (by rw [List.append_assoc]; exact this)
          · have := hds.out
            rw [e1, dmgT_good] at this
            exact hid this
          · simp; omega
          · omega
        case measure => simp [RowKit.intOf]; omega
    · have hkl : k = l.length := by omega
      have e0 : sings 255 k (l.drop k) = [] := by rw [hkl, List.drop_length]; rfl
      have ea := hacc.out
      have ed := hds.out
      rw [e0] at ea ed
      simp only [textT, dmgT, List.flatMap_nil, List.filter_nil, List.map_nil, List.append_nil] at ea ed
      have EA := hid ea
      have ED := hid ed
      clear ea ed e0 hkl hb
      obtain ⟨A2, c2, rfl, hb2⟩ := owned_string hov
      have hcv := hb2.convert (P := Tryd.prog) c2 22 5 9 Tryd.underlying22 Tryd.underlying5 Tryd.underlying9
      clear hb2 hov
      go_wp2
      go_ret3
      obtain rfl : acc = T := EA.out
      obtain rfl : ds = D := ED.out
      exact ⟨_, rfl, hdm, hbw⟩
end Go.Proofs.YtcjomjhaimlbmaaDoor
