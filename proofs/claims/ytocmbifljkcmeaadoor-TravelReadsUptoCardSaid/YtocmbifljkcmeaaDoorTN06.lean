/-
  The closed table: Close of travel. Conditions: the table lies in memory.
-/
import Derived.Test.YtocmbifljkcmeaaDoorTN01
import Derived.Test.YtocmbifljkcmeaaDoorTN02
import Derived.Test.YtocmbifljkcmeaaDoorTN04
import Derived.Test.YtocmbifljkcmeaaDoorTN05
import Derived.Test.YtocmbifljkcmeaaDoorProg
import Derived.WalkKit
import Derived.WalkSpells
import Derived.WalkLawsBesides
import Derived.Lib.Hide
import Derived.Deep.QuietTactic
import Derived.BigQuiet
import Derived.Laws.Rows
import Derived.OwnWalk
import Derived.Lib.BufferWrite
import Derived.Lib.UnsafeStr
import Derived.Laws.IdiomStrings
import Derived.Laws.BytesArg
import Derived.Laws.BytesString
import Derived.Laws.OwnMore
import Derived.Lib.IndexLaws
import Derived.Lib.ItoaNum
import Derived.Lib.Atoi
import Derived.Lib.Bytealg
import Derived.Handy
import Derived.Laws.ResultCell
import Derived.RegionTactic
import Derived.Deep.DeepCutAuto
import Derived.Deep.CutBlock
import Derived.Deep.RegionHeld3
import Derived.Deep.RegionLaw
import Derived.Deep.RegionWith
import Derived.Deep.AppendLies
import Derived.Maps.AppendAt
import Derived.StillTailTactics
import Derived.Shelf.Abstract
import Derived.Lib.SliceRun
import Derived.RangeFuncBox
set_option linter.unusedVariables false
namespace Go.Proofs.YtocmbifljkcmeaaDoor
open Go Go.Proofs Go.RowKit Go.Lib

def closeM (t : TabD) : TabD × Int := if validT t ≠ 0 then (([], []), validT t) else ((t.1, tabF (closeF t) t.1.length), 0)
/-- What Close leaves behind. -/
def CloseOut (o : TabD × Int) (w : World) (e : Ending) (w' : World) : Prop :=
  (∃ A c S d, e = .returned (.tuple #[.agg #[.slice A o.1.1.length c, .slice S o.1.2.length d], .int .i64 o.2]) ∧ TravIn w' (fun b => w.heap.size ≤ b ∧ b < w'.heap.size) A S o.1) ∧ Below w.heap.size w w'
theorem results_ct {fn : Func} {p u : Tmp} {A : TypeId} (h : fn.results = #[.cell p A, .tmp u]) (tmps : Array Value) (P : Program) (w : World) (a : Addr) (va vc : Value)
    (ha : tmps.getD p undef = .pointer (some a)) (hc : tmps.getD u undef = vc)
    (hla : (loadVar A a).run P w = .ok va w) : (results fn tmps).run P w = .ok (.tuple #[va, vc]) w := by
  rw [Array.getD_eq_getD_getElem?] at ha hc
  simp only [results, h]
  simp [Result.andThen, ha, hc, hla, asAddr]
theorem loadTrav {w : World} {k : Nat} {x y : Value} (h0 : w.cell? ⟨k, 0, none⟩ = some x) (h1 : w.cell? ⟨k, 1, none⟩ = some y) : (loadVar 25 ⟨k, 0, none⟩).run Tryd.prog w = .ok (.agg #[x, y]) w := by
  simp [loadVar, go_sem, h0, h1]
/-- A function's end whose results are a table in a cell and a number. -/
theorem close_end {o : TabD × Int} {w W : World} {f : Func} {a : Act} {p u : Tmp} {A S : Option Addr} {c d : Nat} (hf : f.results = #[.cell p 25, .tmp u]) (ha : a.tmps.getD p undef = .pointer (some ⟨w.heap.size + 1, 0, none⟩)) (hc : a.tmps.getD u undef = .int .i64 o.2) (hd : a.defers = [])
    (hz : Box2 W (w.heap.size + 1) 25 (.slice A o.1.1.length c) (.slice S o.1.2.length d)) (hT : TravIn W (fun b => w.heap.size ≤ b ∧ b < W.heap.size) A S o.1) (hB : Below w.heap.size w W) :
    bodyPost Tryd.prog f (CloseOut o w) Exit.ret a W :=
  bodyPost_ret (v := .tuple #[.agg #[.slice A o.1.1.length c, .slice S o.1.2.length d], .int .i64 o.2]) (results_ct hf _ _ _ ⟨w.heap.size + 1, 0, none⟩ _ _ ha hc (loadTrav hz.c0 hz.c1)) hd ⟨⟨A, c, S, d, rfl, hT⟩, hB⟩
/-- The table's box, and that of the result, of a call that began in w0. -/
structure KC (w0 : World) (v0 v1 : Value) (w : World) : Prop where
  g : KT w0 v0 v1 w
  r : Box2 w (w0.heap.size + 1) 25 (.slice none 0 0) (.slice none 0 0)
section
variable {w0 w w' : World} {v0 v1 : Value}
theorem KC.next (h : KC w0 v0 v1 w) (k : Below w.heap.size w w') : KC w0 v0 v1 w' := ⟨h.g.next k, h.r.next k⟩
theorem KC.first (w : World) (v0 v1 : Value) (T : TypeId) : KC w v0 v1 ((w.alloc (.cells #[v0, v1] T)).alloc (.cells #[.slice none 0 0, .slice none 0 0] 25)) := by
  have h1 := KT.first w v0 v1 T
  have hs : (w.alloc (.cells #[v0, v1] T)).heap.size = w.heap.size + 1 := by simp
  generalize w.alloc (.cells #[v0, v1] T) = w1 at h1 hs ⊢
  have h2 := Box2.new w1 25 (.slice none 0 0) (.slice none 0 0)
  rw [hs] at h2
  exact ⟨h1.next ((Below.refl _ _).alloc (Nat.le_refl _) _), h2⟩
theorem KC.lt (h : KC w0 v0 v1 w) : w0.heap.size + 2 ≤ w.heap.size := h.r.lt
theorem KC.far (h : KC w0 v0 v1 w) (k : Below (w0.heap.size + 2) w w') : KC w0 v0 v1 w' := by
  refine ⟨⟨(k.cell (p := ⟨w0.heap.size, 0, none⟩) (by show w0.heap.size < _; omega)).trans h.g.x0, (k.cell (p := ⟨w0.heap.size, 1, none⟩) (by show w0.heap.size < _; omega)).trans h.g.x1, Nat.lt_of_lt_of_le h.g.lt k.size, h.g.b.trans (k.mono (by omega))⟩, h.r.kept (k.block _ (by omega))⟩
end
theorem TO.low {w : World} {B B' O n : Nat} {rb rc : Nat → Nat} {F : Fun2} (h : TO w B O n rb rc F) (hB : B' ≤ B) : TO w B' O n rb rc F :=
  ⟨h.row, h.ent, h.fr, h.inj, h.ne, fun i hi => Nat.le_trans hB (h.lo i hi), h.cap, Nat.le_trans hB h.oB⟩
set_option maxHeartbeats 1000000 in
theorem joined_any (a b : Int) (h : -1 ≤ a ∧ a ≤ 24) (h' : -1 ≤ b ∧ b ≤ 24) (w : World) : Calls Tryd.prog 24 #[.int .i64 a, .int .i64 b] w fun e w' => e = .returned (.int .i64 (joinP a b)) ∧ w' = w := by
  unfold joinP
  by_cases h1 : a = -1
  · have h1b : (a == -1) = true := by simp [h1]
    rw [if_pos (.inl h1)]
    clear h1
    go_enter Tryd.func24, Tryd.ntmps24
    go_wp2
    all_goals (go_ret; exact ⟨by first | rfl | (simp; omega), rfl⟩)
  · have h1b : (a == -1) = false := by simp [h1]
    by_cases h2 : b = -1
    · have h2b : (b == -1) = true := by simp [h2]
      rw [if_pos (.inr h2)]
      clear h1 h2
      go_enter Tryd.func24, Tryd.ntmps24
      go_wp2
      all_goals (go_ret; exact ⟨by first | rfl | (simp; omega), rfl⟩)
    · have h2b : (b == -1) = false := by simp [h2]
      rw [if_neg (by omega)]
      have e1 : IntKind.i64.wrap (a + b) = a + b := IntWalk.i64_in _ (by omega)
      clear h1 h2
      go_enter Tryd.func24, Tryd.ntmps24
      go_wp2
      all_goals (go_ret; exact ⟨by first | rfl | (simp; omega), rfl⟩)
set_option maxHeartbeats 1000000 in
theorem shorter_any (a b : Int) (w : World) : Calls Tryd.prog 23 #[.int .i64 a, .int .i64 b] w fun e w' => e = .returned (.int .i64 (shortP a b)) ∧ w' = w := by
  unfold shortP
  by_cases h1 : a = -1
  · have h1b : (a == -1) = true := by simp [h1]
    rw [if_pos (.inl h1)]
    clear h1
    go_enter Tryd.func23, Tryd.ntmps23
    go_wp2
    all_goals (go_ret; exact ⟨by first | rfl | (simp; omega), rfl⟩)
  · have h1b : (a == -1) = false := by simp [h1]
    by_cases h2 : b = -1
    · have h2b : (b == -1) = true := by simp [h2]
      rw [if_pos (.inr h2)]
      clear h1 h2
      go_enter Tryd.func23, Tryd.ntmps23
      go_wp2
      all_goals (go_ret; exact ⟨by first | rfl | (simp; omega), rfl⟩)
    · have h2b : (b == -1) = false := by simp [h2]
      rw [if_neg (by omega)]
      clear h1 h2
      go_enter Tryd.func23, Tryd.ntmps23
      go_wp2
      all_goals (go_ret; exact ⟨by first | rfl | (simp; omega), rfl⟩)
theorem stepP_in {F : Fun2} (h : ∀ i k, -1 ≤ F i k ∧ F i k ≤ 24) (o f t : Nat) : ∀ i k, -1 ≤ stepP F o f t i k ∧ stepP F o f t i k ≤ 24 := fun i k => by
  have h1 := h f t
  have h2 := h f o
  have h3 := h o t
  unfold stepP upd
  split
  · unfold shortP joinP
    repeat' split
    all_goals omega
  · exact h i k
theorem innF_in {F : Fun2} (h : ∀ i k, -1 ≤ F i k ∧ F i k ≤ 24) (o f : Nat) : ∀ t, ∀ i k, -1 ≤ innF stepP F o f t i k ∧ innF stepP F o f t i k ≤ 24
  | 0 => h
  | t + 1 => stepP_in (innF_in h o f t) o f t
theorem midF_in {F : Fun2} (h : ∀ i k, -1 ≤ F i k ∧ F i k ≤ 24) (n o : Nat) : ∀ f, ∀ i k, -1 ≤ midF stepP n F o f i k ∧ midF stepP n F o f i k ≤ 24
  | 0 => h
  | f + 1 => innF_in (midF_in h n o f) o f n
theorem outF_in {F : Fun2} (h : ∀ i k, -1 ≤ F i k ∧ F i k ≤ 24) (n : Nat) : ∀ o, ∀ i k, -1 ≤ outF stepP n F o i k ∧ outF stepP n F o i k ≤ 24
  | 0 => h
  | o + 1 => midF_in (outF_in h n o) n o n
set_option maxHeartbeats 2000000 in
theorem cloneRows_nil (S : Option Addr) (d : Nat) (w : World) : Calls Tryd.prog 22 #[.slice S 0 d] w fun e w' => e = .returned (.slice none 0 0) ∧ w' = w := by
  go_enter Tryd.func22, Tryd.ntmps22
  go_wp2
  go_loop [3, 5, 8] (fun fv _ iv => fv = .slice none 0 0 ∧ iv = .int .i64 0) (fun _ _ _ => 0)
  case atStart => exact ⟨rfl, rfl⟩
  case round =>
    obtain ⟨rfl, rfl⟩ := hrel
    go_wp2
    go_ret
    exact ⟨rfl, rfl⟩

set_option maxHeartbeats 16000000 in
set_option maxRecDepth 100000 in
theorem tclose_any (A S : Option Addr) (l : List Str) (R : List (List Int)) (c d : Nat) (w : World) (h : TravIn w (fun b => b < w.heap.size) A S (l, R)) (hc : l.length ≤ c) (hc2 : c ≤ 9223372036854775807) (h64 : R.length ≤ 9223372036854775807) :
    Calls Tryd.prog 8 #[.agg #[.slice A l.length c, .slice S R.length d]] w (CloseOut (closeM (l, R)) w) := by
  have hk := KC.first w (.slice A l.length c) (.slice S R.length d) 25
  have HK := hid hk
  have HS := hid h
  have cV : ∀ w', Below w.heap.size w w' → Calls Tryd.prog 10 #[.agg #[.slice A l.length c, .slice S R.length d]] w' (Says (.int .i64 (validT (l, R))) w') :=
    fun w' hb => tvalid_any A S l R c d w' ((h.below hb).mono (fun k hk => Nat.lt_of_lt_of_le hk hb.size)) hc hc2 h64
  have hw1 : ∃ w1, (w.alloc (.cells #[.slice A l.length c, .slice S R.length d] 25)).alloc (.cells #[.slice none 0 0, .slice none 0 0] 25) = w1 := ⟨_, rfl⟩
  obtain ⟨wa, hwa⟩ := hw1
  rw [hwa] at HK
  unfold Says at cV
  obtain ⟨E, hE⟩ : ∃ E, validT (l, R) = E := ⟨_, rfl⟩
  rw [hE] at cV
  have CV := hid cV
  obtain ⟨x0, x1, _, _⟩ := id HK.out.g
  clear hk h cV
  by_cases hE0 : E = 0
  · have hcm : closeM (l, R) = ((l, tabF (closeF (l, R)) l.length), 0) := if_neg (by rw [hE]; simpa using hE0)
    subst hE0
    rw [hcm]
    obtain ⟨h8, hsq, hok⟩ := validT_zero hE
    dsimp only at h8 hsq hok
    have hRl := sqrB_len hsq
    have HF := hid (funT_ok hok)
    have HOK := hid hok
    have hcS : ∀ w', Below w.heap.size w w' → Calls Tryd.prog 25 #[.slice A l.length c] w' (RowOut l w') := fun w' hb => cloneStrs_any A c l w' (by omega) ((HS.out.below hb).b.mono (fun k hk => Nat.lt_of_lt_of_le hk hb.size))
    have HCS := hid hcS
    obtain ⟨n, hn⟩ : ∃ n, l.length = n := ⟨_, rfl⟩
    have hcR : ∀ w', Below w.heap.size w w' → 0 < n → Calls Tryd.prog 22 #[.slice S n d] w' fun e w'' => (∃ O cap, e = .returned (.slice (some ⟨O, 0, none⟩) n cap) ∧ n ≤ cap ∧ cap ≤ 9223372036854775807 ∧ ∃ rb rc : Nat → Nat, TO w'' w'.heap.size O n rb rc (funT R n)) ∧ Below w'.heap.size w' w'' :=
      fun w' hb h0 => cloneRows_any S R d n w' ((HS.out.below hb).s.mono (fun k hk => Nat.lt_of_lt_of_le hk hb.size)) (by rw [← hn]; exact hsq) h0 (by omega)
    have HCR := hid hcR
    have hcf : closeF (l, R) = outF stepP n (funT R n) n := by unfold closeF; dsimp only; rw [hn]
    rw [hcf]
    rw [hRl] at x1 CV HK hwa
    rw [hn] at x0 x1 CV HK HF HCS h8 hwa
    rw [hRl, hn]
    have HNL := hid hn
    clear hE hok hsq hRl hcS hcR hn hcm hcf HOK
    go_enter Tryd.func8, Tryd.ntmps8
    go_upto_region 1 with fail
    (try rw [hwa])
    clear hwa
    go_wp2_with fail
    refine (CV.out _ HK.out.g.b).mono ?_
    rintro e w1 ⟨rfl, hb⟩
    have HK1 := hid (HK.out.next hb)
    clear hb HK CV x0 x1
    obtain ⟨x0, x1, _, _⟩ := id HK1.out.g
    by_cases hn0 : n = 0
    · have hl0 : l = [] := List.eq_nil_of_length_eq_zero (by rw [HNL.out, hn0])
      subst hl0
      subst hn0
      have cC := fun w => cloneRows_nil S d w
      have CC := hid cC
      have HR2 := hid (fun (w' : World) (hb : Below w.heap.size w w') => HCS.out w' hb)
      clear cC HCR
      go_wp2_with fail
      go_cut [5, 6] (fun u5 u6 wx => u5 = .int .i64 0 ∧ u6 = .slice none 0 0 ∧ Hid (KC w (.slice A 0 c) (.slice S 0 d) wx))
      case first =>
        have hk2 := HK1.out.next ((Below.refl _ w1).drew)
        go_region_held3 (fun w' => w'.cell? ⟨w.heap.size, 0, none⟩ = some (.slice A 0 c) ∧ w'.cell? ⟨w.heap.size, 1, none⟩ = some (.slice S 0 d))
          (first | exact ⟨x0, x1⟩)
          (first | (go_at_call 22; refine (CC.out w1.drew).mono ?_; rintro e w2 ⟨rfl, rfl⟩))
        all_goals
          go_wp2_with fail
          go_meet
          exact ⟨rfl, rfl, hid hk2⟩
      case rest =>
        obtain ⟨rfl, rfl, HK2⟩ := hcut
        clear x0 x1 HK1 CC
        obtain ⟨x0, x1, _, _⟩ := id HK2.out.g
        go_wp2
        go_loop [7, 8, 9, 23] (fun _ _ _ ov => ov = .int .i64 0) (fun _ _ _ _ => 0)
        case atStart => rfl
        case round =>
          subst hrel
          have cC := HR2.out _ HK2.out.g.b
          unfold RowOut at cC
          have CC := hid cC
          clear cC
          go_wp2_with fail
          refine CC.out.mono ?_
          rintro e w3 ⟨⟨v3, rfl, hrow3⟩, hb3⟩
          obtain ⟨A3, c3, rfl, -, -, hin3⟩ := hrow3.strsIn
          have hk3 := HK2.out.next hb3
          have HK3 := hid hk3
          obtain ⟨r0, r1⟩ := And.intro hk3.r.c0 hk3.r.c1
          have f0 := hk3.r.free 0
          have f1 := hk3.r.free 1
          clear hb3 hrow3 hin3 hk3 x0 x1
          go_wp2
          exact close_end (A := A3) (S := none) (c := c3) (d := 0) (p := 2) (u := 3) rfl rfl rfl rfl (HK3.out.r.set _ _) ⟨.inl rfl, .inl rfl⟩ ((HK3.out.g.b.setCell (p := ⟨w.heap.size + 1, 0, none⟩) (by show w.heap.size ≤ w.heap.size + 1; omega) _).setCell (p := ⟨w.heap.size + 1, 1, none⟩) (by show w.heap.size ≤ w.heap.size + 1; omega) _)
    · have hnp : 0 < n := by omega
      have HR1 := hid (HCR.out)
      go_wp2_with fail
      go_cut [5, 6] (fun u5 u6 wx => u5 = .int .i64 (n : Int) ∧ ∃ O cap, u6 = .slice (some ⟨O, 0, none⟩) n cap ∧ Hid (n ≤ cap ∧ cap ≤ 9223372036854775807) ∧ ∃ rb rc : Nat → Nat, Hid (TO wx (w.heap.size + 2) O n rb rc (funT R n)) ∧ Hid (KC w (.slice A n c) (.slice S n d) wx))
      case first =>
        have AR := fun (w2 : World) (hb2 : Below w1.drew.heap.size w1.drew w2) => (HK1.out.next (((Below.refl _ w1).drew).trans hb2))
        have HAR := hid AR
        clear AR
        go_region_held3 (fun w' => w'.cell? ⟨w.heap.size, 0, none⟩ = some (.slice A n c) ∧ w'.cell? ⟨w.heap.size, 1, none⟩ = some (.slice S n d))
          (first | exact ⟨x0, x1⟩ | exact ⟨hk2.g.x0, hk2.g.x1⟩)
          (first | (go_at_call 22; refine (HR1.out w1.drew HK1.out.g.b.drew hnp).mono ?_; rintro e w2 ⟨⟨O, cap, rfl, hc1, hc2', rb, rc, hTO⟩, hb2⟩; have hk2 := HAR.out w2 hb2))
        all_goals
          go_wp2_with fail
          go_meet
          exact ⟨rfl, O, cap, rfl, hid ⟨hc1, hc2'⟩, rb, rc, hid (hTO.low HK1.out.lt), hid hk2⟩
      case rest =>
        obtain ⟨rfl, O, cap, rfl, HCP, rb, rc, HT0, HK2⟩ := hcut
        clear x0 x1 HR1 HK1 hnp hn0 HCR
        have HFI := hid (outF_in (F := funT R n) (fun i k => ⟨HF.out.1 i k, HF.out.2.1 i k⟩) n)
        go_wp2
        go_loopw [7, 8, 9, 23] (fun _ _ _ ov wr => ∃ o : Nat, ov = .int .i64 (o : Int) ∧ o ≤ n ∧ Hid (TO wr (w.heap.size + 2) O n rb rc (outF stepP n (funT R n) o)) ∧ Hid (KC w (.slice A n c) (.slice S n d) wr)) (fun _ _ _ ov _ => n - (RowKit.intOf ov).toNat)
        case atStart => exact ⟨0, rfl, Nat.zero_le _, HT0, HK2⟩
        case round =>
          obtain ⟨o, rfl, ho, HTo, HKo⟩ := hrel
          by_cases hlt : o < n
          · have hltz : (o : Int) < (n : Int) := by omega
            obtain ⟨Fo, hFo⟩ : ∃ F, outF stepP n (funT R n) o = F := ⟨_, rfl⟩
            have hfi := HFI.out o
            rw [hFo] at HTo hfi
            have hnext : Hid (midF stepP n Fo o n = outF stepP n (funT R n) (o + 1)) := hid (by rw [← hFo]; rfl)
            have HFI2 := hid (midF_in (F := Fo) hfi n o)
            clear hFo hfi
            go_wp2
            go_loopw [8, 9, 27] (fun _ _ fv wr => ∃ f : Nat, fv = .int .i64 (f : Int) ∧ f ≤ n ∧ Hid (TO wr (w.heap.size + 2) O n rb rc (midF stepP n Fo o f)) ∧ Hid (KC w (.slice A n c) (.slice S n d) wr)) (fun _ _ fv _ => n - (RowKit.intOf fv).toNat)
            case atStart => exact ⟨0, rfl, Nat.zero_le _, HTo, HKo⟩
            case round =>
              obtain ⟨f, rfl, hf, HTf, HKf⟩ := hrel
              by_cases hlt2 : f < n
              · have hltz2 : (f : Int) < (n : Int) := by omega
                obtain ⟨Ff, hFf⟩ : ∃ F, midF stepP n Fo o f = F := ⟨_, rfl⟩
                have hfi := HFI2.out f
                rw [hFf] at HTf hfi
                have hnext2 : Hid (innF stepP Ff o f n = midF stepP n Fo o (f + 1)) := hid (by rw [← hFf]; rfl)
                have HFI3 := hid (innF_in (F := Ff) hfi o f)
                clear hFf hfi
                go_wp2
                go_loopw [9, 31] (fun _ tv wr => ∃ t : Nat, tv = .int .i64 (t : Int) ∧ t ≤ n ∧ Hid (TO wr (w.heap.size + 2) O n rb rc (innF stepP Ff o f t)) ∧ Hid (KC w (.slice A n c) (.slice S n d) wr)) (fun _ tv _ => n - (RowKit.intOf tv).toNat)
                case atStart => exact ⟨0, rfl, Nat.zero_le _, HTf, HKf⟩
                case round =>
                  obtain ⟨t, rfl, ht, HTt, HKt⟩ := hrel
                  by_cases hlt3 : t < n
                  · have hltz3 : (t : Int) < (n : Int) := by omega
                    have d1 : decide (n ≤ o) = false := decide_eq_false (by omega)
                    have d2 : decide (n ≤ f) = false := decide_eq_false (by omega)
                    have d3 : decide (n ≤ t) = false := decide_eq_false (by omega)
                    obtain ⟨G, hG⟩ : ∃ F, innF stepP Ff o f t = F := ⟨_, rfl⟩
                    have hfi := HFI3.out t
                    rw [hG] at HTt hfi
                    have hnext3 : Hid (stepP G o f t = innF stepP Ff o f (t + 1)) := hid (by rw [← hG]; rfl)
                    have cJ := fun w => joined_any (G f o) (G o t) (hfi f o) (hfi o t) w
                    have cS := fun w => shorter_any (G f t) (joinP (G f o) (G o t)) w
                    have z1 := HTt.out.row f hlt2
                    have z2 := HTt.out.row o hlt
                    have z3 := HTt.out.ent f hlt2 t hlt3
                    have z4 := HTt.out.ent f hlt2 o hlt
                    have z5 := HTt.out.ent o hlt t hlt3
                    have z6 := HTt.out.fr f hlt2 t hlt3
                    have hset := HTt.out.set hlt2 hlt3 (shortP (G f t) (joinP (G f o) (G o t)))
                    have hst : upd G f t (shortP (G f t) (joinP (G f o) (G o t))) = stepP G o f t := rfl
                    rw [hst, hnext3.out] at hset
                    have hkc := HKt.out.far ((Below.refl (w.heap.size + 2) wr).setCell (p := ⟨rb f, t, none⟩) (HTt.out.lo f hlt2) (.int .i64 (shortP (G f t) (joinP (G f o) (G o t)))))
                    have HSET := hid (hset.next ((Below.refl _ _).drew))
                    have HKC := hid (hkc.next ((Below.refl _ _).drew))
                    obtain ⟨v1, hv1⟩ : ∃ v, G f t = v := ⟨_, rfl⟩
                    obtain ⟨v2, hv2⟩ : ∃ v, G f o = v := ⟨_, rfl⟩
                    obtain ⟨v3, hv3⟩ : ∃ v, G o t = v := ⟨_, rfl⟩
                    rw [hv2, hv3] at cJ
                    rw [hv1, hv2, hv3] at cS HSET HKC
                    rw [hv1] at z3
                    rw [hv2] at z4
                    rw [hv3] at z5
                    obtain ⟨j1, hj1⟩ : ∃ v, joinP v2 v3 = v := ⟨_, rfl⟩
                    rw [hj1] at cJ cS HSET HKC
                    obtain ⟨s1, hs1⟩ : ∃ v, shortP v1 j1 = v := ⟨_, rfl⟩
                    rw [hs1] at cS HSET HKC
                    obtain ⟨bf, hbf⟩ : ∃ v, rb f = v := ⟨_, rfl⟩
                    rw [hbf] at z1 z3 z4 z6 HSET HKC
                    clear hG hfi hset hst hkc hv1 hv2 hv3 hj1 hs1 hbf hnext3
                    go_upto_region 14 with fail
                    refine wp_region_still_tail 29 (by kernel_rfl) (by kernel_rfl) ?_
                    simp only [List.take_succ_cons, List.take_zero, List.drop_succ_cons, List.drop_zero]
                    repeat still_step
                    still_call (cJ _)
                    still_call (cS _)
                    still_step
                    refine wpStill_nil ?_
                    change wpList _ _ _ _ _ wr.drew
                    go_wp2
                    go_roundw
                    case rel => exact ⟨t + 1, by go_num, by omega, HSET, HKC⟩
                    case measure => simp [RowKit.intOf]; omega
                  · have hltz3 : ¬ (t : Int) < (n : Int) := by omega
                    obtain rfl : t = n := by omega
                    rw [hnext2.out] at HTt
                    go_wp2
                    go_roundw
                    case rel => exact ⟨f + 1, by go_num, by omega, HTt, HKt⟩
                    case measure => simp [RowKit.intOf]; omega
              · have hltz2 : ¬ (f : Int) < (n : Int) := by omega
                obtain rfl : f = n := by omega
                rw [hnext.out] at HTf
                go_wp2
                go_roundw
                case rel => exact ⟨o + 1, by go_num, by omega, HTf, HKf⟩
                case measure => simp [RowKit.intOf]; omega
          · have hltz : ¬ (o : Int) < (n : Int) := by omega
            obtain rfl : o = n := by omega
            obtain ⟨x0, x1, _, _⟩ := id HKo.out.g
            have cC := HCS.out _ HKo.out.g.b
            unfold RowOut at cC
            have CC := hid cC
            clear cC
            go_wp2_with fail
            refine CC.out.mono ?_
            rintro e w3 ⟨⟨v3, rfl, hrow3⟩, hb3⟩
            obtain ⟨A3, c3, rfl, -, -, hin3⟩ := hrow3.strsIn
            have hk3 := HKo.out.next hb3
            have ht3 := (HTo.out.next hb3).tabIn
            have hT : TravIn ((w3.setCell ⟨w.heap.size + 1, 0, none⟩ (.slice A3 l.length c3)).setCell ⟨w.heap.size + 1, 1, none⟩ (.slice (some ⟨O, 0, none⟩) o cap)) (fun b => w.heap.size ≤ b ∧ b < w3.heap.size) A3 (some ⟨O, 0, none⟩) (l, tabF (outF stepP o (funT R o) o) o) := by
              have hne : ∀ b, w.heap.size + 2 ≤ b → ((w3.setCell ⟨w.heap.size + 1, 0, none⟩ (.slice A3 l.length c3)).setCell ⟨w.heap.size + 1, 1, none⟩ (.slice (some ⟨O, 0, none⟩) o cap)).heap[b]? = w3.heap[b]? := fun b hb => by
                rw [heap_setCell_other _ _ _ _ (by show b ≠ w.heap.size + 1; omega), heap_setCell_other _ _ _ _ (by show b ≠ w.heap.size + 1; omega)]
              have hl := HKo.out.lt
              exact ⟨(hin3.kept (fun b hb => hne b (by omega))).mono (fun b hb => ⟨by omega, hb.2⟩), (ht3.kept (fun b hb => hne b hb.1)).mono (fun b hb => ⟨by omega, hb.2⟩)⟩
            have HT3 := hid hT
            have HK3 := hid hk3
            obtain ⟨r0, r1⟩ := And.intro hk3.r.c0 hk3.r.c1
            have f0 := hk3.r.free 0
            have f1 := hk3.r.free 1
            obtain ⟨NL, hNL⟩ : ∃ m, l.length = m := ⟨_, rfl⟩
            rw [hNL] at HT3 ⊢
            have HN2 := hid hNL
            clear hb3 hrow3 hin3 hk3 ht3 hT x0 x1 hNL
            go_wp2
            refine close_end (A := A3) (S := some ⟨O, 0, none⟩) (c := c3) (d := cap) (p := 2) (u := 3) rfl rfl rfl rfl ?_ ?_ ?_
            · dsimp only
              rw [tabF_len, HN2.out]
              exact HK3.out.r.set _ _
            · refine HT3.out.mono fun b hb => ⟨hb.1, by simpa using hb.2⟩
            · exact (HK3.out.g.b.setCell (p := ⟨w.heap.size + 1, 0, none⟩) (by show w.heap.size ≤ w.heap.size + 1; omega) _).setCell (p := ⟨w.heap.size + 1, 1, none⟩) (by show w.heap.size ≤ w.heap.size + 1; omega) _
  · have hcm : closeM (l, R) = (([], []), E) := by unfold closeM; rw [hE, if_pos hE0]
    rw [hcm]
    have hR1 : (E != 0) = true := by simpa using hE0
    have hR2 : (E == 0) = false := by simpa using hE0
    clear hE hcm
    go_enter Tryd.func8, Tryd.ntmps8
    go_upto_region 1 with fail
    (try rw [hwa])
    clear hwa
    go_wp2_with fail
    refine (CV.out _ HK.out.g.b).mono ?_
    rintro e w1 ⟨rfl, hb⟩
    have HK1 := hid (HK.out.next hb)
    clear hb HK CV x0 x1
    obtain ⟨r0, r1⟩ := And.intro HK1.out.r.c0 HK1.out.r.c1
    have f0 := HK1.out.r.free 0
    have f1 := HK1.out.r.free 1
    go_wp2
    exact close_end (A := none) (S := none) (c := 0) (d := 0) (p := 2) (u := 3) rfl rfl rfl rfl (HK1.out.r.set _ _) ⟨.inl rfl, .inl rfl⟩ ((HK1.out.g.b.setCell (p := ⟨w.heap.size + 1, 0, none⟩) (by show w.heap.size ≤ w.heap.size + 1; omega) _).setCell (p := ⟨w.heap.size + 1, 1, none⟩) (by show w.heap.size ≤ w.heap.size + 1; omega) _)
end Go.Proofs.YtocmbifljkcmeaaDoor

