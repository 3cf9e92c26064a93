/-
  The walk of the statement CharsetReturns: it returns true. Conditions: the string has at most 140737488351232 bytes; the library's two tables hold what their initialisers lay.
-/
import Derived.Test.YtcjomjhaimlbmaaDoorEncodesWalk
import Derived.Test.YtcjomjhaimlbmaaDoorDecodesWalk
namespace Go.Proofs.YtcjomjhaimlbmaaDoor
open Go Go.Proofs Go.RowKit Go.Lib

theorem errD_ok' (k : Int) (n : Nat) (hk : k = 1 ∨ k = 2 ∨ k = 3) (hn : n ≤ 65536) : errD k n = 0 := by unfold errD; rw [if_pos hk, if_neg (by omega)]
theorem tokD_ok' (k : Int) (l : List UInt8) (hk : k = 1 ∨ k = 2 ∨ k = 3) (hn : l.length ≤ 65536) : tokD k l = tokens k l := if_pos ⟨hk, hn⟩
theorem take3_of (s : ByteArray) : (s.extract 0 3).toList = s.data.toList.take 3 := by
  rw [Lib.toList_data, Lib.extract_data, List.drop_zero]
theorem drop3_of (s : ByteArray) : (s.extract 3 s.size).toList = s.data.toList.drop 3 := by
  rw [Lib.toList_data, Lib.extract_data, List.take_of_length_le]
  rw [List.length_drop, ← Lib.size_eq]
  exact Nat.le_refl _
theorem good_dmg (ts : List Tok) (h : ∀ t ∈ ts, t.bad = false) : dmgT ts = [] := by
  unfold dmgT
  rw [List.filter_eq_nil_iff.2 (fun t ht => by rw [h t ht]; decide)]
  rfl
/-- What is left of a text when its mark at the beginning is left out. -/
def stripL (k : Int) (l : List UInt8) : List UInt8 := if k = 3 ∧ l.take 3 = mark3 then l.drop 3 else l
theorem back (k : Int) (l : List UInt8) (hk : k = 1 ∨ k = 2 ∨ k = 3) (he : errE k l = 0) :
    resE k l = bytesE k l ∧ (bytesE k l).length ≤ 65536 ∧ textT (tokens k (bytesE k l)) = stripL k l ∧ dmgT (tokens k (bytesE k l)) = [] := by
  have hr : resE k l = bytesE k l := if_pos he
  unfold errE at he
  rw [if_pos hk] at he
  have hp : properB l = true := by
    cases h : properB l with
    | true => rfl
    | false => rw [h] at he; simp at he
  rw [hp, if_pos rfl] at he
  have hb : bigB (gOf k) l = false := by
    cases h : bigB (gOf k) l with
    | false => rfl
    | true => rw [h] at he; simp at he
  rw [hb, if_neg (by decide)] at he
  have hl : (bytesE k l).length ≤ 65536 := by
    rcases Nat.lt_or_ge 65536 (bytesE k l).length with h | h
    · rw [if_pos h] at he; cases he
    · exact h
  have ht : textU l = l := by unfold properB at hp; simpa using hp
  refine ⟨hr, hl, ?_⟩
  have hv : validD l = true := (validD_textU l).2 ht
  have single : ∀ g, g ≤ 255 → (∀ r ∈ runesL l, r ≤ g) → textT (sings g 0 (encB l)) = l ∧ dmgT (sings g 0 (encB l)) = [] := by
    intro g hg hr
    obtain ⟨h1, h2⟩ := sings_enc g hg (runesL l) 0 hr
    refine ⟨?_, h2⟩
    show textT (sings g 0 ((runesL l).map fun r => r.toUInt8)) = l
    rw [h1, ← textU_runes, ht]
  rcases hk with rfl | rfl | rfl
  · obtain ⟨h1, h2⟩ := single 127 (by omega) (bigB_all 127 l hb)
    exact ⟨h1, h2⟩
  · obtain ⟨h1, h2⟩ := single 255 (by omega) (bigB_all 255 l hb)
    exact ⟨h1, h2⟩
  · have hgood := (validD_toks 0 l).1 hv
    show textT (tokens 3 l) = stripL 3 l ∧ dmgT (tokens 3 l) = []
    by_cases hm : l.take 3 = mark3
    · have hm1 : (decodeL l).1 = 65279 := (mark_iff l).2 hm
      have hw := (mark_width l hm1).1
      have hne : l ≠ [] := by intro h; subst h; exact absurd hm (by decide)
      have e1 : tokens 3 l = toks 3 (l.drop 3) := by unfold tokens; rw [if_pos rfl, if_pos hm]
      have e2 : stripL 3 l = l.drop 3 := if_pos ⟨rfl, hm⟩
      have hg3 : ∀ t ∈ toks 3 (l.drop 3), t.bad = false := by
        rw [toks_step 0 l hne, hw] at hgood
        exact fun t ht => hgood t (List.mem_cons_of_mem _ ht)
      rw [e1, e2]
      refine ⟨?_, good_dmg _ hg3⟩
      rw [textT_pos 3 0]
      exact textU_same 3 _ hg3
    · have e1 : tokens 3 l = toks 0 l := by unfold tokens; rw [if_pos rfl, if_neg hm]
      have e2 : stripL 3 l = l := if_neg (fun h => hm h.2)
      rw [e1, e2]
      exact ⟨ht, good_dmg _ hgood⟩

set_option maxHeartbeats 2000000 in
theorem returns_any (s : ByteArray) (n : Int) (hs : s.size ≤ 140737488351232) (w : World) (hT : Lib.Utf8Tabs 0 1 w) :
    Calls Tryd.prog 6 #[.string s, .int .i64 n] w fun e w' => e = .returned (.bool true) ∧ Below w.heap.size w w' := by
  obtain ⟨m, hm⟩ : ∃ m, mod3 n = m := ⟨_, rfl⟩
  have hmr := mod3_range n
  have cM := mod_any n
  rw [hm] at hmr cM
  have hm0 : 0 ≤ m := by omega
  have hm2 : m ≤ 2 := by omega
  have hkr : 1 + m = 1 ∨ 1 + m = 2 ∨ 1 + m = 3 := by omega
  have cE := encode_any s (1 + m) hs w hT
  have cR := fun w1 => refEncode_any s (1 + m) hs w1
  have hback := back (1 + m) s.data.toList hkr
  have hsl : s.data.toList.length = s.size := (Lib.size_eq s).symm
  obtain ⟨E, hE⟩ : ∃ E, errE (1 + m) s.data.toList = E := ⟨_, rfl⟩
  simp only [hE] at cE cR
  rw [hE] at hback
  have CE := hid cE
  have CR := hid cR
  have CM := hid cM
  have HT := hid hT
  have HB := hid hback
  have HSL := hid hsl
  have HKR := hid hkr
  clear cE cR cM hE hT hback hsl hm hmr hkr
  by_cases hE0 : E = 0
  · obtain ⟨hr, hl, htx, hdm⟩ := HB.out hE0
    have hEb : ((E : Int) == 0) = true := by simp [hE0]
    have CE2 := CE.out
    rw [hr] at CE2
    obtain ⟨B, hB⟩ : ∃ B, bytesE (1 + m) s.data.toList = B := ⟨_, rfl⟩
    rw [hB] at CE2 hl htx hdm
    have tD : tokD (1 + m) B = tokens (1 + m) B := tokD_ok' _ _ HKR.out hl
    have eD : errD (1 + m) B.length = 0 := errD_ok' _ _ HKR.out hl
    have CE3 := hid CE2
    have HTX := hid htx
    have HDM := hid hdm
    have HtD := hid tD
    have HeD := hid eD
    have HE0 := hid hE0
    clear CE CE2 hr htx hdm hB tD eD HB CR hE0
    go_enter Tryd.func6, Tryd.ntmps6
    go_wp2_with (go_at_call 16; refine (CM.out _).mono ?_; rintro e w' ⟨rfl, rfl⟩)
    go_wp2_with fail
    refine CE3.out.mono ?_
    rintro e w1 ⟨A1, c1, rfl, hB1, hBc, _, hb1⟩
    have cD := decode_any A1 B c1 (1 + m) w1 hB1 (Utf8Tabs_below HT.out hb1)
    rw [HtD.out, HeD.out, HTX.out, HDM.out] at cD
    have CD := hid cD
    clear cD hB1
    go_wp2_with fail
    refine CD.out.mono ?_
    rintro e w2 ⟨dv, rfl, hd, hb2⟩
    obtain ⟨A2, c2, rfl, _⟩ := hd.len
    have hb12 : Below w.heap.size w w2 := hb1.trans (hb2.mono hb1.size)
    have hT2 := Utf8Tabs_below HT.out hb12
    obtain ⟨T, hT⟩ : ∃ T, stripL (1 + m) s.data.toList = T := ⟨_, rfl⟩
    rw [hT]
    have HTT := hid hT
    clear hT hd hb1 hb2
    by_cases hm3 : m = 2
    · have hmb : (1 + m == 3) = true := by simp [hm3]
      by_cases hmk : s.data.toList.take 3 = mark3
      · have hsz : 2 < s.size := by
          have := congrArg List.length hmk
          simp [mark3, HSL.out] at this
          omega
        have hszz : (2 : Int) < (s.size : Int) := by omega
        have h2 : ((s.extract 0 3).toList == [239, 187, 191]) = true := by rw [take3_of, hmk]; decide
        have h3 : (T == (s.extract 3 s.size).toList) = true := by
          have : T = s.data.toList.drop 3 := by rw [← HTT.out]; exact if_pos ⟨by omega, hmk⟩
          rw [drop3_of, this, BEq.rfl]
        clear hm3 hmk
        go_wp2_with fail
        refine (awake_any w2 hT2).mono ?_
        rintro e w3 ⟨rfl, hb3⟩
        go_wp2
        go_ret
        exact ⟨rfl, hb12.trans (hb3.mono hb12.size)⟩
      · have h3 : (T == s.toList) = true := by
          have : T = s.data.toList := by rw [← HTT.out]; exact if_neg (fun h => hmk h.2)
          rw [Lib.toList_data, this, BEq.rfl]
        have h2 : ((s.extract 0 3).toList == [239, 187, 191]) = false := by
          rw [take3_of]
          exact beq_eq_false_iff_ne.2 hmk
        clear hm3 hmk
        by_cases hsz : 2 < s.size
        · have hszz : (2 : Int) < (s.size : Int) := by omega
          go_wp2_with fail
          refine (awake_any w2 hT2).mono ?_
          rintro e w3 ⟨rfl, hb3⟩
          go_wp2
          go_ret
          exact ⟨rfl, hb12.trans (hb3.mono hb12.size)⟩
        · have hszz : ¬ (2 : Int) < (s.size : Int) := by omega
          go_wp2_with fail
          refine (awake_any w2 hT2).mono ?_
          rintro e w3 ⟨rfl, hb3⟩
          go_wp2
          go_ret
          exact ⟨rfl, hb12.trans (hb3.mono hb12.size)⟩
    · have hmb : (1 + m == 3) = false := by simp; omega
      have h3 : (T == s.toList) = true := by
        have : T = s.data.toList := by rw [← HTT.out]; exact if_neg (fun h => hm3 (by omega))
        rw [Lib.toList_data, this, BEq.rfl]
      clear hm3
      go_wp2_with fail
      refine (awake_any w2 hT2).mono ?_
      rintro e w3 ⟨rfl, hb3⟩
      go_wp2
      go_ret
      exact ⟨rfl, hb12.trans (hb3.mono hb12.size)⟩
  · have hEb : ((E : Int) == 0) = false := by simp [hE0]
    have HE0 := hid hE0
    clear hE0
    go_enter Tryd.func6, Tryd.ntmps6
    go_wp2_with (go_at_call 16; refine (CM.out _).mono ?_; rintro e w' ⟨rfl, rfl⟩)
    go_wp2_with fail
    refine CE.out.mono ?_
    rintro e w1 ⟨A1, c1, rfl, _, _, _, hb1⟩
    go_wp2_with fail
    refine (CR.out w1).mono ?_
    rintro e w2 ⟨A2, c2, rfl, _, _, _, hb2⟩
    have hb12 : Below w.heap.size w w2 := hb1.trans (hb2.mono hb1.size)
    have hT2 := Utf8Tabs_below HT.out hb12
    go_wp2_with fail
    refine (awake_any w2 hT2).mono ?_
    rintro e w3 ⟨rfl, hb3⟩
    go_wp2
    go_ret
    exact ⟨rfl, hb12.trans (hb3.mono hb12.size)⟩
end Go.Proofs.YtcjomjhaimlbmaaDoor
