/-
  strings.ContainsAny of a field of any bytes, where the signs are ASCII: what range over a string gives, strings.IndexRune at a rune that is not ASCII, strings.IndexAny of at most 8 bytes. Conditions: as the lemmas state.
-/
import Derived.Test.YtcpkefjijinhiaaDoorShelf
import Derived.Laws.RangeAny
import Derived.Lib.OthersKept
import Derived.WalkMore
import Derived.BigQuiet
import Derived.Deep.QuietTactic
import Derived.Deep.RegionWith
import Derived.Deep.RegionHeld3
import Derived.IntWalk
set_option linter.unusedVariables false
namespace Go.Proofs.YtcpkefjijinhiaaDoor.W2
open Go Go.Proofs Go.RowKit Go.Lib Go.Proofs.YtcpkefjijinhiaaDoor

theorem dec_cont (s : ByteArray) (i k : Nat) (h1 : 1 ≤ k) (hk : k < (Utf8.decode s i).2) : i + k < s.size ∧ 128 ≤ (s.get! (i + k)).toNat := by
  simp only [Utf8.decode] at hk
  split at hk
  · simp only at hk; omega
  · split at hk
    · rename_i _ h
      simp only [Bool.and_eq_true, beq_iff_eq, decide_eq_true_eq] at h
      split at hk
      · simp only at hk
        obtain rfl : k = 1 := by omega
        exact ⟨h.2.1, by omega⟩
      · simp only at hk; omega
    · split at hk
      · rename_i _ _ h
        simp only [Bool.and_eq_true, beq_iff_eq, decide_eq_true_eq] at h
        split at hk
        · simp only at hk
          rcases (by omega : k = 1 ∨ k = 2) with rfl | rfl
          · exact ⟨h.1.2.1, by omega⟩
          · exact ⟨h.2.1, by omega⟩
        · simp only at hk; omega
      · split at hk
        · rename_i _ _ _ h
          simp only [Bool.and_eq_true, beq_iff_eq, decide_eq_true_eq] at h
          split at hk
          · simp only at hk
            rcases (by omega : k = 1 ∨ k = 2 ∨ k = 3) with rfl | rfl | rfl
            · exact ⟨h.1.1.2.1, by omega⟩
            · exact ⟨h.1.2.1, by omega⟩
            · exact ⟨h.2.1, by omega⟩
          · simp only at hk; omega
        · simp only at hk; omega
theorem dec_valid (s : ByteArray) (i : Nat) : Utf8.valid ((Utf8.decode s i).1 : Int) = true := by
  have hb : ∀ k, (s.get! (i + k)).toNat < 256 := fun k => (s.get! (i + k)).toNat_lt
  have h0 := hb 0; have h1 := hb 1
  have e : Utf8.valid ((65533 : Nat) : Int) = true := by decide
  simp only [Utf8.decode]
  split
  · rename_i h
    simp only [Nat.add_zero] at h ⊢
    simp [Utf8.valid]
    omega
  · split
    · split
      · simp [Utf8.valid]; omega
      · exact e
    · split
      · split
        · rename_i _ _ _ h
          simp only [Bool.and_eq_true] at h
          exact h.2
        · exact e
      · split
        · split
          · rename_i _ _ _ _ h
            simp only [Bool.and_eq_true] at h
            exact h.2
          · exact e
        · exact e
theorem enc_last (r : Nat) (h : 128 ≤ r) (hv : Utf8.valid (r : Int) = true) : ∃ (n : Nat) (b : UInt8), 1 ≤ n ∧ n ≤ 3 ∧ (Utf8.encode (r : Int)).size = n + 1 ∧ (Utf8.encode (r : Int)).data.toList[n]? = some b ∧ 128 ≤ b.toNat := by
  have key : ∀ x : Nat, 128 ≤ (UInt8.ofNat (128 + x % 64)).toNat := fun x => by
    rw [UInt8.toNat_ofNat']
    omega
  unfold Utf8.encode
  simp only [hv, if_true, Int.toNat_natCast]
  rw [if_neg (by omega)]
  split
  · exact ⟨1, _, by omega, by omega, rfl, rfl, key r⟩
  · split
    · exact ⟨2, _, by omega, by omega, rfl, rfl, key r⟩
    · exact ⟨3, _, by omega, by omega, rfl, rfl, key r⟩
theorem valid_eq (r : Nat) (h : Utf8.valid (r : Int) = true) : Lib.validRune (r : Int) = true := by
  unfold Utf8.valid at h
  simp only [Bool.or_eq_true, Bool.and_eq_true, decide_eq_true_eq] at h
  unfold Lib.validRune
  exact decide_eq_true (by omega)
theorem drewN_below {B : Nat} {a w : World} (h : Below B a w) (n : Nat) : Below B a (w.drewN n) := h.trans ⟨rfl, rfl, rfl, Nat.le_refl _, fun _ _ => rfl⟩
/-- All bytes are ASCII. -/
def Asc (C : ByteArray) : Prop := ∀ b ∈ C.data.toList, b.toNat < 128
theorem Asc.at_ {C : ByteArray} (h : Asc C) {i : Nat} (hi : i < C.size) : (C[i]'hi).toNat < 128 := by
  have h1 := Lib.data_getElem? C i hi
  exact h _ (List.mem_of_getElem? h1)
theorem asc_miss : ∀ (l : List UInt8), (∀ b ∈ l, b.toNat < 128) → ∀ x : UInt8, 128 ≤ x.toNat → Lib.indexByte l x < 0 := by
  intro l h x hx
  have hc := Lib.contains_iff_indexByte l x
  have : l.contains x = false := by
    rw [Bool.eq_false_iff]
    intro hm
    have := h x (by simpa using hm)
    omega
  rw [this] at hc
  have := of_decide_eq_false hc.symm
  omega
set_option maxHeartbeats 4000000 in
set_option maxRecDepth 100000 in
theorem indexRune_bad (C : ByteArray) (hS : Asc C) (w : World) :
    Calls Tryd.prog 72 #[.string C, .int .i32 65533] w fun e w' => e = .returned (.int .i64 (-1)) ∧ Below w.heap.size w w' := by
  have HS := hid hS
  clear hS
  go_enter Tryd.func72, Tryd.ntmps72
  go_wp2_with fail
  go_loopg [5, 6] C.size (fun g _ _ wx => ∃ i : Nat, i + g = C.size ∧ wx = w.iter C i)
  case atStart => exact ⟨0, by omega, rfl⟩
  case round =>
    obtain ⟨i, hig, rfl⟩ := hrel
    cases gk with
    | zero =>
      obtain rfl : i = C.size := by omega
      have hnx := fun ty => run_next_end (P := Tryd.prog) w C C.size ty (by omega)
      go_wp2
      go_ret
      exact ⟨rfl, (Below.refl _ _).alloc (Nat.le_refl _) _⟩
    | succ g =>
      have hi : i < C.size := by omega
      have hx128 := HS.out.at_ hi
      have hnx := fun ty => run_next_ascii (P := Tryd.prog) w C i ty hi hx128
      obtain ⟨x, hx⟩ : ∃ x : Nat, (C[i]'hi).toNat = x := ⟨_, rfl⟩
      rw [hx] at hnx hx128
      have hne : ((x : Int) == 65533) = false := beq_eq_false_iff_ne.2 (by omega)
      clear hx
      go_wp2
      go_roundg g
      case measure => omega
      case rel => exact ⟨i + 1, by omega, rfl⟩
set_option maxHeartbeats 4000000 in
set_option maxRecDepth 100000 in
theorem indexRune_high (C : ByteArray) (hC : C.size = 4) (hS : Asc C) (r : Nat) (h : 128 ≤ r) (hv : Utf8.valid (r : Int) = true) (w : World) :
    Calls Tryd.prog 72 #[.string C, .int .i32 (r : Int)] w fun e w' => e = .returned (.int .i64 (-1)) ∧ Below w.heap.size w w' := by
  by_cases hb : r = 65533
  · subst hb
    exact indexRune_bad C hS w
  · have hne : ((r : Int) == 65533) = false := beq_eq_false_iff_ne.2 (by omega)
    have hlt : decide ((r : Int) < 128) = false := decide_eq_false (by omega)
    have hge : decide ((0 : Int) ≤ (r : Int)) = true := decide_eq_true (by omega)
    have cV := Tryd.utf8_ValidRune (r : Int)
    rw [valid_eq r hv] at cV
    obtain ⟨n, b, hn1, hn3, hsz, hbn, hb128⟩ := enc_last r h hv
    obtain ⟨E, hE⟩ : ∃ E, Utf8.encode (r : Int) = E := ⟨_, rfl⟩
    rw [hE] at hsz hbn
    have hnE : n < E.size := by omega
    have hEn : E[n]'hnE = b := by
      have h1 := Lib.data_getElem? E n hnE
      rw [hbn] at h1
      exact (Option.some.inj h1).symm
    have hnC : n < C.size := by omega
    have hc128 := hS.at_ hnC
    obtain ⟨x, hx⟩ : ∃ x, C[n]'hnC = x := ⟨_, rfl⟩
    rw [hx] at hc128
    have hxb : (((x.toNat : Int)) != (b.toNat : Int)) = true := by
      rw [bne_iff_ne]
      omega
    have cI := Tryd.strings_IndexByte
    go_enter Tryd.func72, Tryd.ntmps72
    go_wp2_with fail
    refine (cV _).mono ?_
    rintro e w1 ⟨rfl, rfl⟩
    have hsub : (E.size : Int) - 1 = (n : Int) := by omega
    have hnCz : (n : Int) < (C.size : Int) := by omega
    have hnEz : (n : Int) < (E.size : Int) := by omega
    have hEsz := hid hsz
    clear hv h hne hlt hge hbn cV hsz
    go_wp2_with fail
    refine wp_scope_straight ?_
    go_wp2_with fail
    go_loopw [9] (fun iv wx => iv = .int .i64 (n : Int) ∧ wx = w1) (fun _ _ => 0)
    case atStart => exact ⟨rfl, rfl⟩
    case round =>
      obtain ⟨rfl, rfl⟩ := hrel
      clear hE hsub hb hC
      have HX := hid hx
      have HB := hid hEn
      clear hx hEn
      go_upto_region 6 with fail
      refine wp_scope_straight ?_
      go_wp2_with fail
      go_quiet (fail)
      rw [HX.out, HB.out, hxb]
      have hEb := HB.out
      have hn1z : (n : Int) + 1 ≤ (C.size : Int) := by omega
      have hn0z : (0 : Int) ≤ (n : Int) + 1 := by omega
      have hwr : IntKind.i64.wrap ((n : Int) + 1) = (n : Int) + 1 := IntWalk.i64_in _ (by omega)
      have hsl : ∀ W, (Instr.slice 9 (.string C) (some (.int .i64 ((n : Int) + 1))) none none).run Tryd.prog W = .ok (.string (C.extract (n + 1) C.size)) W := fun W => by
        rw [run_slice_string_l W 9 C Tryd.underlying9 .i64 ((n : Int) + 1) hn0z hn1z]
        rfl
      go_wp2_with fail
      go_region_held3 (fun _ => True) (exact trivial) (first
        | (go_at_call 27; refine (cI _ _ _).mono ?_; rintro e w' ⟨rfl, hw'⟩))
      all_goals
        have hlt : Lib.indexByte (List.take (C.size - (n + 1)) (List.drop (n + 1) C.data.toList)) b < 0 := asc_miss _ (fun y hy => hS y (List.mem_of_mem_drop (List.mem_of_mem_take hy))) b hb128
        go_wp2
        change bodyPost Tryd.prog Tryd.f72 (fun e w' => e = Ending.returned (Value.int IntKind.i64 (-1)) ∧ Below wr.heap.size wr w') Exit.ret _ _
        go_ret
        exact ⟨rfl, drewN_below (Below.refl _ _) _⟩
/-- The multi-byte runes hold no sign. -/
theorem NoAny.wide {s C : ByteArray} {i : Nat} (h : Lib.NoAny s.data.toList C.data.toList i) (hS : Asc C) (hi : i < s.size) (hx : 128 ≤ (s[i]'hi).toNat) : Lib.NoAny s.data.toList C.data.toList (i + (Utf8.decode s i).2) ∧ i + (Utf8.decode s i).2 ≤ s.size := by
  obtain ⟨_, h1⟩ := decode_high s i hi hx
  have miss : ∀ b : UInt8, 128 ≤ b.toNat → C.data.toList.contains b = false := fun b hb => by
    rw [Bool.eq_false_iff]
    intro hm
    have := hS b (by simpa using hm)
    omega
  refine ⟨fun j b hj hb => ?_, ?_⟩
  · by_cases hji : j < i
    · exact h j b hji hb
    · by_cases e : j = i
      · subst e
        rw [Lib.data_getElem? s j hi] at hb
        injection hb with hb
        exact miss b (by rw [← hb]; exact hx)
      · obtain ⟨c1, c2⟩ := dec_cont s i (j - i) (by omega) (by omega)
        rw [show i + (j - i) = j by omega] at c1 c2
        rw [Lib.data_getElem? s j c1] at hb
        injection hb with hb
        refine miss b ?_
        rw [← hb]
        have e2 : s.get! j = s[j]'c1 := get_at s j c1
        rw [← e2]
        exact c2
  · by_cases e : (Utf8.decode s i).2 = 1
    · omega
    · obtain ⟨c1, _⟩ := dec_cont s i ((Utf8.decode s i).2 - 1) (by omega) (by omega)
      omega
set_option maxHeartbeats 8000000 in
set_option maxRecDepth 100000 in
/-- strings.IndexAny of at most 8 bytes, whatever they are, where the signs are four ASCII bytes. -/
theorem indexAny_short (s C : ByteArray) (hC : C.size = 4) (hS : Asc C) (h8 : s.size ≤ 8) (w : World) :
    Calls Tryd.prog 62 #[.string s, .string C] w fun e w' => e = .returned (.int .i64 (Lib.indexAny s.data.toList C.data.toList)) ∧ Below w.heap.size w w' := by
  have hemp : C.toList.isEmpty = false := by
    rw [Lib.toList_data]
    cases h : C.data.toList with
    | nil => have := Lib.size_eq C; rw [h, List.length_nil] at this; omega
    | cons _ _ => rfl
  have hn1 : ((C.size : Int) == 1) = false := beq_eq_false_iff_ne.2 (by omega)
  have h8z : decide ((8 : Int) < (s.size : Int)) = false := decide_eq_false (by omega)
  have cU := Tryd.strings_shouldUseASCIISet
  have cH := indexRune_high C hC hS
  have cL := Tryd.strings_IndexRune_ascii C
  have HS := hid hS
  have CH := hid cH
  have CL := hid cL
  have HC := hid hC
  clear cH cL hS hC
  go_enter Tryd.func62, Tryd.ntmps62
  go_wp2_with fail
  refine (cU _ _).mono ?_
  rintro e w1 ⟨rfl, rfl⟩
  rw [h8z]
  clear cU
  go_wp2_with fail
  have hat : (w1.iter s 0).heap[w1.heap.size]? = some (.stringIter s 0) := by simp [World.iter_heap]
  have hbt : Below w1.heap.size w1 (w1.iter s 0) := (Below.refl _ _).alloc (Nat.le_refl _) _
  go_loopg [9, 10] s.size (fun g _ _ wx => ∃ i : Nat, s.size ≤ i + g ∧ i ≤ s.size ∧ Hid (wx.heap[w1.heap.size]? = some (.stringIter s i)) ∧ Hid (Below w1.heap.size w1 wx) ∧ Hid (Lib.NoAny s.data.toList C.data.toList i))
  case atStart => exact ⟨0, by omega, Nat.zero_le _, hid hat, hid hbt, hid (Lib.NoAny.zero _ _)⟩
  case round =>
    obtain ⟨i, hig, hil, HIT, HB, HN⟩ := hrel
    clear hat hbt
    by_cases hi : i < s.size
    · cases gk with
      | zero => omega
      | succ g =>
        by_cases hx : (s[i]'hi).toNat < 128
        · have hnx := fun ty => run_next_ascii_at (P := Tryd.prog) wr w1.heap.size s i ty HIT.out hi hx
          have hxl := Lib.data_getElem? s i hi
          have hit2 := iterAt_heap wr w1.heap.size s i (i + 1) HIT.out
          have hb2 := below_iterAt HB.out (k := w1.heap.size) (Nat.le_refl _) s (i + 1)
          obtain ⟨x, hxe⟩ : ∃ x : UInt8, s[i]'hi = x := ⟨_, rfl⟩
          rw [hxe] at hnx hxl hx
          have hback : ((x.toNat : Int)).toNat.toUInt8 = x := by simp
          have hcon := Lib.contains_iff_indexByte C.data.toList x
          have HX := hid hxl
          have HIT2 := hid hit2
          have HB2 := hid hb2
          clear hxl hit2 hb2 hxe
          cases hin : C.data.toList.contains x with
          | false =>
            rw [hin] at hcon
            have hlt : ¬ ((0 : Int) ≤ Lib.indexByte C.data.toList x) := of_decide_eq_false hcon.symm
            clear hcon
            go_wp2_with fail
            refine (CL.out _ _ (by omega) (by omega)).mono ?_
            rintro e w2 ⟨rfl, rfl⟩
            rw [hback]
            go_wp2
            go_roundg g
            case measure => omega
            case rel => exact ⟨i + 1, by omega, by omega, HIT2, HB2, hid (HN.out.succ HX.out hin)⟩
          | true =>
            rw [hin] at hcon
            have hge : (0 : Int) ≤ Lib.indexByte C.data.toList x := of_decide_eq_true hcon.symm
            clear hcon
            go_wp2_with fail
            refine (CL.out _ _ (by omega) (by omega)).mono ?_
            rintro e w2 ⟨rfl, rfl⟩
            rw [hback]
            go_wp2
            go_ret
            exact ⟨by rw [Lib.indexAny_hit HN.out HX.out hin]; rfl, HB2.out⟩
        · have hx' : 128 ≤ (s[i]'hi).toNat := by omega
          have hnx := fun ty => run_next_any_at (P := Tryd.prog) wr w1.heap.size s i ty HIT.out hi
          obtain ⟨hr, hw⟩ := decode_high s i hi hx'
          have hv := dec_valid s i
          obtain ⟨hno, hle⟩ := NoAny.wide HN.out HS.out hi hx'
          have hit2 := iterAt_heap wr w1.heap.size s i (i + (Utf8.decode s i).2) HIT.out
          have hb2 := below_iterAt HB.out (k := w1.heap.size) (Nat.le_refl _) s (i + (Utf8.decode s i).2)
          obtain ⟨R, hR⟩ : ∃ R, (Utf8.decode s i).1 = R := ⟨_, rfl⟩
          obtain ⟨J, hJ⟩ : ∃ J, i + (Utf8.decode s i).2 = J := ⟨_, rfl⟩
          rw [hR, hJ] at hnx
          rw [hR] at hr hv
          rw [hJ] at hno hle hit2 hb2
          have hij : i + 1 ≤ J := by omega
          have cR := CH.out R hr hv
          have HNO := hid hno
          have HIT2 := hid hit2
          have HB2 := hid hb2
          have CR := hid cR
          clear hno hit2 hb2 hR hJ hx hx' cR hw hv hr
          go_wp2_with fail
          refine (CR.out _).mono ?_
          rintro e w2 ⟨rfl, hbx⟩
          have hk : w1.heap.size < (wr.iterAt w1.heap.size s J).heap.size := (Array.getElem?_eq_some_iff.1 HIT2.out).1
          have HIT3 := hid ((hbx.block w1.heap.size hk).trans HIT2.out)
          have HB3 := hid (HB2.out.trans (hbx.mono (Nat.le_of_lt hk)))
          clear hbx hnx CR
          go_wp2
          go_roundg g
          case measure => omega
          case rel => exact ⟨J, by omega, hle, HIT3, HB3, HNO⟩
    · have hnx := fun ty => run_next_end_at (P := Tryd.prog) wr w1.heap.size s i ty HIT.out hi
      go_wp2
      go_ret
      exact ⟨by rw [Lib.indexAny_none (by rw [← Lib.size_eq, show s.size = i by omega]; exact HN.out)]; rfl, HB.out⟩
end Go.Proofs.YtcpkefjijinhiaaDoor.W2
