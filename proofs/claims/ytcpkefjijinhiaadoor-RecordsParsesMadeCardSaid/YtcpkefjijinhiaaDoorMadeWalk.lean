/-
  The walk of the statement RecordsParsesMade: it returns true. Conditions: the numbers lie in memory; the first variable of the package holds a number; the contracts of dialect and of the reference's field are hypotheses.
-/
import Derived.Test.YtcpkefjijinhiaaDoorDialP
import Derived.Test.YtcpkefjijinhiaaDoorSpoil
import Derived.Test.YtcpkefjijinhiaaDoorFields
import Derived.Test.YtcpkefjijinhiaaDoorAgree
import Derived.Test.YtcpkefjijinhiaaDoorAwake
import Derived.Deep.RegionLaw
set_option linter.unusedVariables false
namespace Go.Proofs.YtcpkefjijinhiaaDoor
open Go Go.Proofs Go.RowKit Go.Lib

theorem fmtGo_len (D Q : UInt8) : ∀ (ls : List (List Str)) (acc : Str), (fmtGo D Q acc ls).1.length ≤ 65536
  | [], acc => by
    unfold fmtGo
    split
    · simp
    · simp; omega
  | l :: r, acc => by
    unfold fmtGo
    split
    · simp
    · split
      · simp
      · exact fmtGo_len D Q r _
theorem fmtM_len (D Q : UInt8) (ls : List (List Str)) : (fmtM D Q ls).1.length ≤ 65536 := by
  unfold fmtM
  split
  · split
    · simp
    · exact fmtGo_len D Q ls []
  · simp
theorem wgtRow_made : ∀ (l : List Str), (∀ s ∈ l, s.length ≤ 6) → wgtRow l ≤ 1 + 15 * l.length
  | [], _ => by simp [wgtRow]
  | s :: r, h => by
    have ih := wgtRow_made r (fun x hx => h x (List.mem_cons_of_mem _ hx))
    have := h s (by simp)
    simp only [wgtRow, wgtF, List.length_cons]
    omega
theorem wgtRows_made : ∀ (ls : List (List Str)), (∀ l ∈ ls, MadeRow l) → wgtRows ls ≤ 76 * ls.length
  | [], _ => by simp [wgtRows]
  | l :: r, h => by
    have ih := wgtRows_made r (fun x hx => h x (List.mem_cons_of_mem _ hx))
    have hl := h l (by simp)
    have h1 := wgtRow_made l hl.2.2
    have h2 := hl.2.1
    simp only [wgtRows, List.length_cons]
    omega

/-- What is kept while the statement's calls run: the dialect's block, the dice, the first variable, the memory below. -/
structure MK (w0 : World) (xk g c : Nat) (A : Option Addr) (L : List Int) (D Q : UInt8) (m : Int) (W : World) : Prop where
  d0 : W.cell? ⟨xk, 0, none⟩ = some (.int .u8 D.toNat)
  d1 : W.cell? ⟨xk, 1, none⟩ = some (.int .u8 Q.toNat)
  lx : xk < W.heap.size
  m0 : W.cell? ⟨0, 0, none⟩ = some (.int .i64 m)
  dice : ∃ k', DiceAt W g A L c k'
  b : Below w0.heap.size w0 W
  ne : xk ≠ g
  gz : w0.heap.size ≤ g
  z0 : 0 < w0.heap.size
theorem MK.below {w0 W W' : World} {xk g c : Nat} {A : Option Addr} {L : List Int} {D Q : UInt8} {m : Int} (h : MK w0 xk g c A L D Q m W) (k : Below W.heap.size W W') : MK w0 xk g c A L D Q m W' := by
  obtain ⟨k', hd⟩ := h.dice
  exact ⟨(k.cell (p := ⟨xk, 0, none⟩) h.lx).trans h.d0, (k.cell (p := ⟨xk, 1, none⟩) h.lx).trans h.d1, Nat.lt_of_lt_of_le h.lx k.size,
    (k.cell (p := ⟨0, 0, none⟩) (Nat.lt_of_lt_of_le h.z0 h.b.size)).trans h.m0, ⟨k', hd.below k hd.lt⟩, h.b.trans (k.mono h.b.size), h.ne, h.gz, h.z0⟩
theorem MK.played {w0 W W' : World} {xk g c k' : Nat} {A : Option Addr} {L : List Int} {D Q : UInt8} {m : Int} (h : MK w0 xk g c A L D Q m W) (hd : DiceAt W' g A L c k') (k : Played W.heap.size g W W') : MK w0 xk g c A L D Q m W' :=
  ⟨(World.cell?_of_block (w := W) (k.block xk h.lx h.ne)).trans h.d0, (World.cell?_of_block (w := W) (k.block xk h.lx h.ne)).trans h.d1, Nat.lt_of_lt_of_le h.lx k.size,
    (World.cell?_of_block (w := W) (k.block 0 (Nat.lt_of_lt_of_le h.z0 h.b.size) (by have := h.gz; have := h.z0; omega))).trans h.m0, ⟨k', hd⟩, h.b.trans (k.toBelow h.b.size h.gz), h.ne, h.gz, h.z0⟩
theorem MK.m1 {w0 W : World} {xk g c : Nat} {A : Option Addr} {L : List Int} {D Q : UInt8} {m : Int} (h : MK w0 xk g c A L D Q m W) : 0 < W.heap.size := Nat.lt_of_lt_of_le h.z0 h.b.size

set_option maxHeartbeats 8000000 in
set_option maxRecDepth 100000 in
theorem made_any (cFA : FieldAll) (cD : DialAll) (m : Int) (A : Option Addr) (L : List Int) (c : Nat) (w : World) (hI : IntsIn w w.heap.size A L) (hm : w.cell? ⟨0, 0, none⟩ = some (.int .i64 m)) (hw0 : 0 < w.heap.size) :
    Calls Tryd.prog 4 #[.slice A L.length c] w fun e w' => e = .returned (.bool true) ∧ Below w.heap.size w w' := by
  have cL := light_any A L.length c
  by_cases hl : L.length ≤ 400
  · rw [decide_eq_true hl] at cL
    have cR := roll_any A L c hl w hI
    obtain ⟨g, hg⟩ : ∃ g, w.heap.size = g := ⟨_, rfl⟩
    have CR := hid cR
    have HM := hid hm
    clear cR hI hm
    go_enter Tryd.func4, Tryd.ntmps4
    go_wp2_with fail
    refine (cL _).mono ?_
    rintro e w' ⟨rfl, rfl⟩
    go_wp2_with fail
    refine CR.out.mono ?_
    rintro e w1 ⟨rfl, hd1, hb1⟩
    rw [hg] at hd1 ⊢
    have hgle : w.heap.size ≤ g := by omega
    clear hg
    have hsz1 := hb1.size
    have hB1 := hid hb1
    have cX := cD g c 0 A L w1 hd1
    have CX := hid cX
    have hg1 := hd1.lt
    clear hd1 hb1 cL cX CR
    go_wp2_with fail
    refine CX.out.mono ?_
    rintro e w2 ⟨⟨D, Q, rfl, hv⟩, ⟨k2, hd2⟩, hP2⟩
    have hsz2 := hP2.size
    have hza : (w2.alloc (.cells #[.int .u8 D.toNat, .int .u8 Q.toNat] 23)).heap[w2.heap.size]? = some (.cells #[.int .u8 D.toNat, .int .u8 Q.toNat] 23 (0, 0)) := heap_alloc_new w2 _
    have hba : Below w2.heap.size w2 (w2.alloc (.cells #[.int .u8 D.toNat, .int .u8 Q.toNat] 23)) := (Below.refl _ w2).alloc (Nat.le_refl _) _
    have hb2 : Below w.heap.size w w2 := hB1.out.trans (hP2.toBelow (B' := w.heap.size) hsz1 hgle)
    have hbx : Below w.heap.size w (w2.alloc (.cells #[.int .u8 D.toNat, .int .u8 Q.toNat] 23)) := hb2.trans (hba.mono hb2.size)
    have hk : MK w w2.heap.size g c A L D Q m (w2.alloc (.cells #[.int .u8 D.toNat, .int .u8 Q.toNat] 23)) :=
      ⟨cell_at hza 0, cell_at hza 1, by simp, (hbx.cell (p := ⟨0, 0, none⟩) hw0).trans HM.out, ⟨k2, hd2.below hba hd2.lt⟩, hbx, by have := hd2.lt; omega, hgle, hw0⟩
    have HK := hid hk
    have HV := hid hv
    unfold dialV
    clear hP2 hd2 hza hba hb2 hbx hk hv CX hB1 HM
    obtain ⟨xk, hxk⟩ : ∃ xk, w2.heap.size = xk := ⟨_, rfl⟩
    rw [hxk] at HK
    go_wp2_with fail
    clear hxk
    generalize w2.alloc (.cells #[.int .u8 D.toNat, .int .u8 Q.toNat] 23) = w3 at HK ⊢
    obtain ⟨k3, hd3⟩ := HK.out.dice
    have cT := text_any g c k3 A L ⟨#[97, 98, 44, 59, 34, 39, 35, 32, 10, 13, 124]⟩ 60 (by decide) (by decide) (by omega) (by omega) w3 hd3
    refine cT.mono ?_
    clear cT hd3
    rintro e w4 ⟨⟨S1, rfl, _, _⟩, ⟨k4, hd4⟩, hP4⟩
    have hk4 := HK.out.played hd4 hP4
    have HK4 := hid hk4
    generalize (⟨S1.toArray⟩ : ByteArray) = S at *
    clear hk4 hd4 hP4 HK
    have cA : ∀ W, MK w xk g c A L D Q m W → Calls Tryd.prog 9 #[] W fun e w' => e = .returned (.bool true) ∧ MK w xk g c A L D Q m w' := fun W h =>
      (awake_any m W h.m0 h.m1).mono fun e w' ⟨h1, h2⟩ => ⟨h1, h.below h2⟩
    have cG : ∀ (S : ByteArray) (W : World), MK w xk g c A L D Q m W → Calls Tryd.prog 12 #[.string S, .agg #[.int .u8 D.toNat, .int .u8 Q.toNat]] W fun e w' => e = .returned (.bool true) ∧ MK w xk g c A L D Q m w' := fun S W h =>
      (agree_any cFA S D Q W).mono fun e w' ⟨h1, h2⟩ => ⟨h1, h.below h2⟩
    have cF : ∀ W, MK w xk g c A L D Q m W → Calls Tryd.prog 19 #[.pointer (some ⟨g, 0, none⟩)] W fun e w' => (∃ (Av : Option Addr) (cv : Nat) (ls : List (List Str)), e = .returned (.slice Av (List.length ls) cv) ∧ Hid (RowsIn w' (fun b => b < w'.heap.size) Av ls ∧ ls.length ≤ 5 ∧ ∀ l ∈ ls, MadeRow l)) ∧ MK w xk g c A L D Q m w' := fun W h => by
      obtain ⟨k', hd⟩ := h.dice
      refine (fields_any g c k' A L W hd).mono ?_
      rintro e w' ⟨⟨v, vs, ls, rfl, hov, hsr, hl5, hgood⟩, ⟨k2, hd2⟩, hP⟩
      obtain ⟨Av, cv, rfl, _, _, hrows⟩ := rows_rowsIn hov hsr
      refine ⟨⟨Av, cv, ls, rfl, hid ⟨?_, hl5, hgood⟩⟩, h.played hd2 hP⟩
      exact hrows.imp (fun x => x) fun ⟨b, off, h1, h2, h3⟩ => ⟨b, off, h1, h2.2, fun j l hj => by
        obtain ⟨A', c', k1, k2, k3, k4⟩ := h3 j l hj
        exact ⟨A', c', k1, k2, k3, k4.mono fun b hb => hb.2⟩⟩
    have cO : ∀ (Av : Option Addr) (cv : Nat) (ls : List (List Str)) (W : World), Hid (RowsIn W (fun b => b < W.heap.size) Av ls ∧ ls.length ≤ 5 ∧ ∀ l ∈ ls, MadeRow l) → MK w xk g c A L D Q m W →
        Calls Tryd.prog 18 #[.slice Av (List.length ls) cv, .agg #[.int .u8 D.toNat, .int .u8 Q.toNat]] W fun e w' => (∃ (F : ByteArray) (err : Int), e = .returned (.tuple #[.string F, .int .i64 err]) ∧ Hid (F.size ≤ 65536)) ∧ MK w xk g c A L D Q m w' := fun Av cv ls W hr h => by
      have h1 := wgtRows_made ls hr.out.2.2
      have h2 := hr.out.2.1
      refine (refFormat_any Av ls cv D Q W hr.out.1 (by omega) (by omega)).mono ?_
      rintro e w' ⟨rfl, hb⟩
      exact ⟨⟨_, _, rfl, hid (by rw [Lib.size_eq]; exact fmtM_len D Q ls)⟩, h.below hb⟩
    have cS : ∀ (F : ByteArray) (W : World), Hid (F.size ≤ 65536) → MK w xk g c A L D Q m W → Calls Tryd.prog 20 #[.pointer (some ⟨g, 0, none⟩), .string F, .string ⟨#[44, 59, 34, 39, 10, 13, 35, 97]⟩] W fun e w' => (∃ S2 : ByteArray, e = .returned (.string S2)) ∧ MK w xk g c A L D Q m w' := fun F W hF h => by
      obtain ⟨k', hd⟩ := h.dice
      refine (spoil_any g c k' A L F ⟨#[44, 59, 34, 39, 10, 13, 35, 97]⟩ (by have := hF.out; omega) (by decide) (by decide) W hd).mono ?_
      rintro e w' ⟨⟨l, rfl, _⟩, ⟨k2, hd2⟩, hP⟩
      exact ⟨⟨_, rfl⟩, h.played hd2 hP⟩
    clear cFA cD
    have hk := HK4.out.below (below_drewNg w4 1 _)
    change MK w xk g c A L D Q m w4.drew at hk
    have h0 := hk.d0
    have h1 := hk.d1
    go_upto_region 6 with fail
    go_region_with (first
      | (go_at_call 19; refine (cF _ ?_).mono ?_; assumption; rintro e w' ⟨⟨Av, cv, ls, rfl, hrows⟩, hk'⟩; have h0 := hk'.d0; have h1 := hk'.d1)
      | (go_at_call 18; refine (cO _ _ _ _ ?_ ?_).mono ?_; assumption; assumption; rintro e w' ⟨⟨F, err, rfl, hF⟩, hk'⟩; have h0 := hk'.d0; have h1 := hk'.d1))
    all_goals
      have hk6 : MK w xk g c A L D Q m (World.drew w') := hk'.below (below_drewNg _ 1 _)
      have h0 := hk6.d0
      have h1 := hk6.d1
      clear cF cO HK4 hk
      go_wp2_with fail
      go_region_with (first
        | (go_at_call 9; refine (cA _ ?_).mono ?_; assumption; rintro e w' ⟨rfl, hk'⟩; have h0 := hk'.d0; have h1 := hk'.d1)
        | (go_at_call 12; refine (cG _ _ ?_).mono ?_; assumption; rintro e w' ⟨rfl, hk'⟩; have h0 := hk'.d0; have h1 := hk'.d1)
        | (go_at_call 20; refine (cS _ _ hF ?_).mono ?_; assumption; rintro e w' ⟨⟨S2, rfl⟩, hk'⟩; have h0 := hk'.d0; have h1 := hk'.d1))
      all_goals go_wp2
      all_goals go_ret
      all_goals exact ⟨rfl, MK.b hk'⟩
  · rw [decide_eq_false hl] at cL
    have cA := awake_any m w hm hw0
    go_enter Tryd.func4, Tryd.ntmps4
    go_wp2_with fail
    refine (cL _).mono ?_
    rintro e w' ⟨rfl, rfl⟩
    go_wp2_with fail
    refine cA.mono ?_
    rintro e w' ⟨rfl, hb⟩
    go_wp2
    go_ret
    exact ⟨rfl, hb⟩
end Go.Proofs.YtcpkefjijinhiaaDoor
