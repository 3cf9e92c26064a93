/-
  The walk of the statement CharsetDecodes: it returns true. Conditions: the bytes lie in memory as a slice within its capacity; the library's two tables hold what their initialisers lay.
-/
import Derived.Test.YtcjomjhaimlbmaaDoorAwake
import Derived.Test.YtcjomjhaimlbmaaDoorRefU
import Derived.Deep.QuietTactic
import Derived.BigQuiet
namespace Go.Proofs.YtcjomjhaimlbmaaDoor
open Go Go.Proofs Go.RowKit Go.Lib

theorem toks_length' (p : Nat) (l : List UInt8) : (toks p l).length ≤ l.length := by
  refine toks_ind (C := fun p l => (toks p l).length ≤ l.length) (fun p => by simp [toks_nil]) (fun p l hne ih => ?_) l.length p l (Nat.le_refl _)
  have hw := decodeL_width l
  have hl : 0 < l.length := List.length_pos_iff.2 hne
  rw [toks_step p l hne]
  simp only [List.length_cons, List.length_drop] at ih ⊢
  omega
theorem sings_length' (g : Nat) : ∀ (p : Nat) (l : List UInt8), (sings g p l).length = l.length
  | _, [] => rfl
  | p, c :: l => by simp [sings, sings_length' g (p + 1) l]
theorem dmgT_length (ts : List Tok) : (dmgT ts).length ≤ ts.length := by
  unfold dmgT
  rw [List.length_map]
  exact List.length_filter_le _ _
theorem tokens_length (k : Int) (l : List UInt8) : (tokens k l).length ≤ l.length := by
  unfold tokens
  split
  · split
    · exact Nat.le_trans (toks_length' 3 _) (by simp)
    · exact toks_length' 0 l
  · rw [sings_length']; exact Nat.le_refl _
theorem refDecode_any (A : Option Addr) (l : List UInt8) (c : Nat) (k : Int) (hlc : l.length ≤ c) (w : World) (hb : BIn w w.heap.size A l) :
    Calls Tryd.prog 9 #[.slice A l.length c, .int .i64 k] w (Dec3 w (textT (tokD k l)) (dmgT (tokD k l)) (errD k l.length)) := by
  by_cases hk : k = 1 ∨ k = 2 ∨ k = 3
  · by_cases hl : l.length ≤ 65536
    · have e1 : tokD k l = tokens k l := if_pos ⟨hk, hl⟩
      have e2 : errD k l.length = 0 := by unfold errD; rw [if_pos hk, if_neg (by omega)]
      rw [e1, e2]
      rcases hk with rfl | rfl | rfl
      · exact refDecode_1 A l c hl w hb
      · exact refDecode_2 A l c hl w hb
      · exact refDecode_3 A l c hl hlc w hb
    · have e1 : tokD k l = [] := if_neg (fun h => hl h.2)
      have e2 : errD k l.length = 2 := by unfold errD; rw [if_pos hk, if_pos (by omega)]
      rw [e1, e2]
      exact refDecode_large A l.length c k (by omega) (by omega) (by omega) w
  · have e1 : tokD k l = [] := if_neg (fun h => hk h.1)
    have e2 : errD k l.length = 6 := by unfold errD; rw [if_neg hk]
    rw [e1, e2]
    exact refDecode_unknown A l.length c k (by omega) w

set_option maxHeartbeats 1000000 in
theorem sameDamage_any (dv lv : Value) (D : List (Nat × UInt8)) (B B' : Nat) (w : World) (hD : D.length ≤ 65536) (hd : Dmg w B dv D) (hd' : Dmg w B' lv D) :
    Calls Tryd.prog 11 #[dv, lv] w fun e w' => e = .returned (.bool true) ∧ ∃ q, w' = w.drewN q := by
  obtain ⟨A1, c1, rfl, hc1⟩ := hd.len
  obtain ⟨A2, c2, rfl, hc2⟩ := hd'.len
  go_enter Tryd.func11, Tryd.ntmps11
  go_wp2
  go_loopw [5] (fun i wr => ∃ k : Nat, i = .int .i64 (k : Int) ∧ k ≤ D.length ∧ ∃ q, wr = w.drewN q) (fun i _ => D.length - (RowKit.intOf i).toNat)
  case atStart => exact ⟨0, rfl, Nat.zero_le _, 0, rfl⟩
  case round =>
    obtain ⟨k, rfl, hk, q, rfl⟩ := hrel
    by_cases hlt : k < D.length
    · obtain ⟨x, hx⟩ : ∃ x, D[k]? = some x := ⟨_, List.getElem?_eq_getElem hlt⟩
      obtain ⟨g, cap', hv, _, ha1, ha2⟩ := hd.cell hx
      injection hv with hA _ hcp
      subst hA hcp
      obtain ⟨g', cap', hv, _, hb1, hb2⟩ := hd'.cell hx
      injection hv with hA _ hcp
      subst hA hcp
      obtain ⟨at', by'⟩ := x
      obtain ⟨y, hy⟩ : ∃ y, by'.toNat = y := ⟨_, rfl⟩
      dsimp only at ha1 ha2 hb1 hb2
      rw [hy] at ha2 hb2
      clear hx hy hd hd'
      go_wp2
      go_quiet (fail)
      go_wp2
      go_roundw
      case rel => exact ⟨k + 1, by go_num, by omega, q + nq, rfl⟩
      case measure => simp [RowKit.intOf]; omega
    · clear hd hd'
      go_wp2
      go_ret
      exact ⟨rfl, q, rfl⟩

set_option maxHeartbeats 2000000 in
theorem decodes_any (A : Option Addr) (l : List UInt8) (c : Nat) (k : Int) (hlc : l.length ≤ c) (w : World) (hb : BIn w w.heap.size A l) (hT : Lib.Utf8Tabs 0 1 w) :
    Calls Tryd.prog 3 #[.slice A l.length c, .int .i64 k] w fun e w' => e = .returned (.bool true) ∧ Below w.heap.size w w' := by
  have cD := decode_any A l c k w hb hT
  have hDl : (dmgT (tokD k l)).length ≤ 65536 := by
    unfold tokD
    split
    · rename_i h
      exact Nat.le_trans (dmgT_length _) (Nat.le_trans (tokens_length k l) h.2)
    · simp [dmgT]
  have cR : ∀ w1, Below w.heap.size w w1 → Calls Tryd.prog 9 #[.slice A l.length c, .int .i64 k] w1 (Dec3 w1 (textT (tokD k l)) (dmgT (tokD k l)) (errD k l.length)) :=
    fun w1 h1 => refDecode_any A l c k hlc w1 ((hb.below h1).mono h1.size)
  obtain ⟨T, hTT⟩ : ∃ T, textT (tokD k l) = T := ⟨_, rfl⟩
  obtain ⟨D, hDD⟩ : ∃ D, dmgT (tokD k l) = D := ⟨_, rfl⟩
  obtain ⟨E, hE⟩ : ∃ E, errD k l.length = E := ⟨_, rfl⟩
  rw [hTT, hDD, hE] at cD
  rw [hDD] at hDl
  simp only [hTT, hDD, hE] at cR
  have CD := hid cD
  have CR := hid cR
  have HT := hid hT
  clear cD cR hTT hDD hE hb hT
  go_enter Tryd.func3, Tryd.ntmps3
  go_wp2_with fail
  refine CD.out.mono ?_
  rintro e w1 ⟨dv, rfl, hd1, hb1⟩
  go_wp2_with fail
  refine (CR.out w1 hb1).mono ?_
  rintro e w2 ⟨lv, rfl, hd2, hb2⟩
  have hb12 : Below w.heap.size w w2 := hb1.trans (hb2.mono hb1.size)
  have hd3 := hd1.below hb2
  have hT2 := Utf8Tabs_below HT.out hb12
  clear hd1 hb1 hb2
  go_wp2_with fail
  refine (awake_any w2 hT2).mono ?_
  rintro e w3 ⟨rfl, hb3⟩
  have hd4 := hd3.below hb3
  have hd5 := hd2.below hb3
  have hb13 : Below w.heap.size w w3 := hb12.trans (hb3.mono hb12.size)
  clear hd2 hd3 hb3 hb12 hT2
  go_wp2_with fail
  refine (sameDamage_any dv lv D _ _ w3 hDl hd4 hd5).mono ?_
  rintro e w4 ⟨rfl, q, rfl⟩
  go_wp2
  go_ret
  exact ⟨rfl, hb13.trans ⟨rfl, rfl, rfl, Nat.le_refl _, fun _ _ => rfl⟩⟩
end Go.Proofs.YtcjomjhaimlbmaaDoor
