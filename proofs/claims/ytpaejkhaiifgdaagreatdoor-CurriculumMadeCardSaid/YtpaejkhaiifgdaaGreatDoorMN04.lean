/-
  The walk of CurriculumMade. Conditions: the numbers lie in memory as a slice of ints; the variables hold what their text lays.
-/
import Derived.Test.YtpaejkhaiifgdaaGreatDoorGN01
import Derived.Test.YtpaejkhaiifgdaaGreatDoorGN02
import Derived.Test.YtpaejkhaiifgdaaGreatDoorGN03
import Derived.Test.YtpaejkhaiifgdaaGreatDoorGN04
import Derived.Test.YtpaejkhaiifgdaaGreatDoorGN05
import Derived.Test.YtpaejkhaiifgdaaGreatDoorGN06
import Derived.Test.YtpaejkhaiifgdaaGreatDoorGN07
import Derived.Test.YtpaejkhaiifgdaaGreatDoorGN08
import Derived.Test.YtpaejkhaiifgdaaGreatDoorGN09
import Derived.Test.YtpaejkhaiifgdaaGreatDoorGN10
import Derived.Test.YtpaejkhaiifgdaaGreatDoorGN11
import Derived.Test.YtpaejkhaiifgdaaGreatDoorGN12
import Derived.Test.YtpaejkhaiifgdaaGreatDoorGN13
import Derived.Test.YtpaejkhaiifgdaaGreatDoorGN14
import Derived.Test.YtpaejkhaiifgdaaGreatDoorGN15
import Derived.Test.YtpaejkhaiifgdaaGreatDoorGN16
import Derived.Test.YtpaejkhaiifgdaaGreatDoorGN17
import Derived.Test.YtpaejkhaiifgdaaGreatDoorGN18
import Derived.Test.YtpaejkhaiifgdaaGreatDoorEN01
import Derived.Test.YtpaejkhaiifgdaaGreatDoorEN02
import Derived.Test.YtpaejkhaiifgdaaGreatDoorEN03
import Derived.Test.YtpaejkhaiifgdaaGreatDoorEN04
import Derived.Test.YtpaejkhaiifgdaaGreatDoorEN05
import Derived.Test.YtpaejkhaiifgdaaGreatDoorEN06
import Derived.Test.YtpaejkhaiifgdaaGreatDoorEN07
import Derived.Test.YtpaejkhaiifgdaaGreatDoorEN08
import Derived.Test.YtpaejkhaiifgdaaGreatDoorEN09
import Derived.Test.YtpaejkhaiifgdaaGreatDoorMN01
import Derived.Test.YtpaejkhaiifgdaaGreatDoorMN02
import Derived.Test.YtpaejkhaiifgdaaGreatDoorMN03
import Derived.Lib.Bytealg
import Derived.Test.YtpaejkhaiifgdaaGreatDoorProg
import Derived.WalkKit
import Derived.WalkSpells
import Derived.WalkLawsBesides
import Derived.Lib.Hide
import Derived.Deep.QuietTactic
import Derived.BigQuiet
import Derived.Laws.Rows
import Derived.OwnWalk
import Derived.Lib.BufferWrite
import Derived.Lib.UnsafeStr
import Derived.Laws.IdiomStrings
import Derived.Laws.BytesArg
import Derived.Laws.BytesString
import Derived.Laws.OwnMore
import Derived.Lib.IndexLaws
import Derived.Lib.ItoaNum
import Derived.Lib.Atoi
import Derived.Lib.SlTrimSet
import Derived.Shelf.Strings.Builder1
import Derived.Shelf.Strings.Builder2
import Derived.Shelf.Strings.OnBuilder
import Derived.Shelf.Strings.Trim
import Derived.Shelf.Small.Utf8
import Derived.Shelf.Small.Strs
import Derived.Shelf.Strings.BuilderF
import Derived.Shelf.Strings.BuilderK
import Derived.Shelf.Strings.Builder2Cap
import Derived.Shelf.Strconv.Atoi
import Derived.Shelf.Strconv.Itoa0
import Derived.Shelf.Strconv.Itoa1
import Derived.Shelf.LaysM
import Derived.Shelf.Strconv.Itoa2
import Derived.Shelf.Strconv.Itoa3
import Derived.Shelf.Strconv.AtoiErrFast
import Derived.Shelf.Strconv.ParseIntEmpty
import Derived.Shelf.Strconv.AtoiFail
import Derived.Shelf.Strconv.Clone
import Derived.Shelf.Strconv.SyntaxError
import Derived.Shelf.LaysC
import Derived.Shelf.Strconv.ToError
import Derived.Shelf.Strconv.AtoiErr
import Derived.Shelf.Strings.Search1
import Derived.Shelf.Strings.Search2
import Derived.Shelf.Strings.Search3
import Derived.Shelf.Strings.Cut
import Derived.Shelf.Strings.Shaped
import Derived.Shelf.Strings.Prefix
import Derived.Shelf.Strings.Runes
import Derived.Shelf.Strings.AsciiSet
import Derived.Shelf.Bits.Mul64
import Derived.Shelf.Strings.Repeat
import Derived.Shelf.Unicode.DecodeSlow
import Derived.Shelf.Strings.BuilderCap
import Derived.Shelf.Slices.Turned
import Derived.Shelf.Strings.SlTrimAscii
import Derived.Lib.AtoiErrMem
import Derived.Handy
import Derived.Laws.ResultCell
import Derived.RegionTactic
import Derived.Lib.Repeat
import Derived.Deep.RegionHeld3
import Derived.Laws.AppendOwn
import Derived.IntWalk
import Derived.Maps.OwnSet
import Derived.Maps.Range
import Derived.Deep.RegionLaw
import Derived.Laws.BitsAllLaws
import Derived.Laws.BitsLemmas
import Derived.Maps.AppendAt
import Derived.Deep.DeepCutAuto
import Derived.Deep.CutBlock
import Derived.RangeFuncNested
import Derived.RangeFuncBound
import Derived.RangeFuncCalls
import Derived.RangeFuncLeaves
import Derived.Shelf.Abstract
import Derived.Shelf.RegionOpen
import Derived.OwnWalkIn
import Derived.Lib.SlicesS
import Derived.TacticsInMore
import Derived.LoopNIn
import Derived.LoopIn
import Derived.OneCell
import Derived.Laws.Tables
import Derived.Laws.CopyOwn
import Derived.OrdersHeld
import Derived.Deep.AppendLies
import Derived.StillTailTactics
import Derived.RangeFuncBox
import Derived.Lib.Join
import Derived.Laws.Concat
import Derived.Stop.BytesEq
import Derived.Lib.QuietBelow
import Derived.ArgAppend
import Derived.Deep.RegionLawGrows
import Derived.Deep.RegionWith
import Derived.Lib.MinMax
import Derived.Deep.WholeRow
set_option linter.unusedVariables false
namespace Go.Proofs.YtpaejkhaiifgdaaGreatDoor.S11
open Go Go.Proofs Go.RowKit Go.Lib Go.Proofs.YtpaejkhaiifgdaaGreatDoor Go.Proofs.YtpaejkhaiifgdaaGreatDoor.S10

set_option maxHeartbeats 32000000 in
set_option maxRecDepth 100000 in
theorem made_any (A : Option Addr) (L : List Int) (c FB fo fc : Nat) (hlen : L.length ≤ 9223372036854775807) (w : World) (hE : S3.Env w) (h : IntsIn w w.heap.size A L)
    (hf : FeatAt w FB fo fc) (hFB : FB < w.heap.size) :
    Calls Tryz.prog 4 #[.slice A L.length c] w fun e w' => e = .returned (.bool true) ∧ Below w.heap.size w w' := by
  have cL := light_any A L.length c w
  have hGf : 0 < w.heap.size := World.block_lt_of_cell? w _ hf.c0
  have HFT := hid (fun w' (hb : Below w.heap.size w w') => hf.kept (w' := w') (hb.block _ hGf) (hb.block _ hFB))
  have cK := hid (fun w' (hb : Below w.heap.size w w') => awake_any w' (hE.below hb))
  have cK' := cK.out
  unfold Says at cK'
  have cK := hid cK'
  have HE := hid (fun w' (hb : Below w.heap.size w w') => hE.below hb)
  clear cK' hf hE
  by_cases hl : L.length ≤ 400
  · rw [decide_eq_true hl] at cL
    have cR := hid (fun w h => roll_any A L c hl w h)
    have HI := hid h
    clear h
    go_enter Tryz.func4, Tryz.ntmps4
    go_wp2_with fail
    refine cL.mono ?_
    rintro e w' ⟨rfl, rfl⟩
    go_wp2_with fail
    refine (cR.out _ HI.out).mono ?_
    rintro e w1 ⟨rfl, hd1, hb1⟩
    have hgl := hd1.lt
    have HB : Hid (∀ W k, DE w1 w.heap.size c A L k W → Below w.heap.size w W) := hid (fun W k he => hb1.trans (he.toBelow (Nat.le_of_lt hgl) (Nat.le_refl _)))
    have cG := hid (grid_any w.heap.size c 0 A L w1 hd1)
    clear hd1 hb1 cL cR HI
    go_wp2_with fail
    refine cG.out.mono ?_
    rintro e w2 ⟨d, s, b, m, k2, rfl, hmg, he2⟩
    have g1 : 1 ≤ d ∧ d ≤ 5 := hmg.1
    have g2 : 2 ≤ s ∧ s ≤ 8 := hmg.2.1
    have CL : Hid (Calls Tryz.prog 22 #[.pointer (some ⟨w.heap.size, 0, none⟩), .agg #[.int .i64 d, .int .i64 s, .int .i64 b, .int .i64 m], .int .i64 1, .slice none 0 0, .int .i64 6] w2 fun e w' => ∃ (ls : List ClassD) (Al : Option Addr) (cl k : Nat), e = .returned (.slice Al ls.length cl) ∧ ls.length ≤ 6 ∧ (ls.length ≤ cl ∧ cl ≤ 9223372036854775807) ∧ ClassesOk d s 1 [] ls ∧ ClassesIn w' (fun k => w.heap.size < k ∧ k < w'.heap.size) Al ls ∧ DE w1 w.heap.size c A L k w') := hid (by
      refine (classes_any w.heap.size c k2 FB fo fc A L d s b m 1 6 (by omega) (by omega) (by omega) (by omega) (by omega) (by omega) (by omega) none [] 0 (by simp) w2 he2.d (.inl rfl) (HFT.out _ (HB.out _ _ he2)) hGf hFB).mono ?_
      rintro e w' ⟨ls, v, k', rfl, hl6, hok, hrow, he⟩
      obtain ⟨A5, c5, rfl, h1, h2, hin5⟩ := hrow.classesIn
      have hz2 : w.heap.size < w2.heap.size := Nat.lt_of_lt_of_le hgl he2.p.size
      exact ⟨ls, A5, c5, k', rfl, hl6, ⟨h1, h2⟩, hok, hin5.mono (fun k hk => by rcases hk with h | h; exact ⟨by omega, h.2⟩; exact ⟨by omega, h.2⟩), he2.trans he⟩)
    clear he2 cG hmg
    go_wp2_with fail
    refine CL.out.mono ?_
    rintro e w3 ⟨cls, Ac, cc, k3, rfl, hl6, hcc, hok, hcin, he3⟩
    have hCU := curricula_any w.heap.size c k3 A L Ac cls cc (by omega) w3 he3.d (hcin.mono (fun k hk => hk.2))
    have HCU := hid hCU
    have HCI := hid hcin
    have HE3 := hid he3
    have HL6 := hid (And.intro hl6 hcc)
    have HCO := hid hok
    obtain ⟨NC, hNC⟩ : ∃ F, cls.length = F := ⟨_, rfl⟩
    have HNC := hid hNC
    rw [hNC] at HCU ⊢
    clear hCU hcin he3 hl6 hok CL hNC hcc g1 g2 HFT
    go_wp2_with fail
    refine HCU.out.mono ?_
    rintro e w4 ⟨ls, v, k4, rfl, hlo, hlr, he4⟩
    have hw14 : DE w1 w.heap.size c A L k4 w4 := HE3.out.trans he4
    have HDE4 := hid hw14
    have hg4 : w.heap.size < w4.heap.size := Nat.lt_of_lt_of_le hgl hw14.p.size
    have hg3 : w.heap.size < w3.heap.size := Nat.lt_of_lt_of_le hgl HE3.out.p.size
    have hz34 : w3.heap.size ≤ w4.heap.size := he4.p.size
    have hd4 := hid hw14.d
    have HBD : Hid (∀ W k, DE w4 w.heap.size c A L k W → Below w.heap.size w W) := hid (fun W k he => HB.out _ _ (HDE4.out.trans he))
    obtain ⟨_, _, hsm⟩ := currs_back HCO.out hlo
    have hl3 := hlo.len
    obtain ⟨LL, hLL, hown, hrl⟩ := hlr
    have hlLL : LL.length = ls.length := by rw [← hLL, List.length_map]
    obtain ⟨Al, cl, rfl, _, _, hlin⟩ := CurrRow.currsIn ⟨LL, hLL, hown, hrl⟩
    have hown' : w4.ownsRow w3.heap.size 41 2 (.slice Al ls.length cl) LL.length (currVals LL) := by rw [hlLL]; exact hown
    have hlin' : CurrsIn w4 (fun k => w3.heap.size ≤ k ∧ k < w4.heap.size) Al ls := hlin.mono (fun k hk => by rcases hk with h | h; exact h; exact h)
    have HKC : Hid (∀ W k, DE w4 w.heap.size c A L k W → ClassesIn W (fun k => k < W.heap.size) Ac cls) := hid (fun W k he =>
      (HCI.out.kept (fun b hb => (he.p.block b (by omega) (by omega)).trans (he4.p.block b hb.2 (by omega)))).mono (fun b hb => by have := he.p.size; omega))
    have HKL : Hid (∀ W k, DE w4 w.heap.size c A L k W → CurrsIn W (fun k => k < W.heap.size) Al ls) := hid (fun W k he =>
      (hlin'.kept (fun b hb => he.p.block b hb.2 (by omega))).mono (fun b hb => by have := he.p.size; omega))
    have HODD : Hid (∀ (W : World) (k : Nat), DE w4 w.heap.size c A L k W → Calls Tryz.prog 28 #[.pointer (some ⟨w.heap.size, 0, none⟩), .slice Al ls.length cl] W (OddP w.heap.size c A L W)) := hid (fun W k he => by
      have hz := he.p.size
      refine oddCurr_any w.heap.size c k w3.heap.size A L LL _ W he.d (he.p.row hown' (fun k hk => ?_)) hg3 (fun p hp => ((hrl p hp).kept (fun b hb => he.p.block b hb.2 ?_)).mono (fun b hb => ⟨?_, ?_⟩)) (by omega)
      · have := World.ownsRow.lt hown' k hk
        omega
      · omega
      · omega
      · omega)
    have HONE : Hid (∀ (W : World) (q : Int), 1 ≤ q → q ≤ 4294967296 → (∃ k, DiceAt W w.heap.size A L c k) → Calls Tryz.prog 25 #[.pointer (some ⟨w.heap.size, 0, none⟩), .int .i64 q] W fun e w' => ∃ r : Bool, e = .returned (.bool r) ∧ ∃ k', DE W w.heap.size c A L k' w') := hid (fun W q hq hq2 ⟨k, hd⟩ => by
      refine (Go.Proofs.YtpaejkhaiifgdaaGreatDoor.one_any w.heap.size c k A L q hq2 hq W hd).mono ?_
      rintro e w' ⟨⟨r, rfl⟩, ⟨k', hd'⟩, hR⟩
      exact ⟨r, rfl, k', (DE.first hd).next hd' hR⟩)
    have HNX : Hid (∀ (W : World) (q : Int), 1 ≤ q → q ≤ 4294967296 → (∃ k, DiceAt W w.heap.size A L c k) → Calls Tryz.prog 26 #[.pointer (some ⟨w.heap.size, 0, none⟩), .int .i64 q] W fun e w' => ∃ r : Nat, e = .returned (.int .i64 (r : Int)) ∧ (r : Int) < q ∧ ∃ k', DE W w.heap.size c A L k' w') := hid (fun W q hq hq2 ⟨k, hd⟩ => by
      refine (next_any w.heap.size c k A L q hq2 W hd).mono ?_
      rintro e w' ⟨⟨r, rfl, hr⟩, ⟨k', hd'⟩, hR⟩
      obtain ⟨hr0, hr1⟩ := hr hq
      obtain ⟨q0, rfl⟩ : ∃ q : Nat, r = (q : Int) := ⟨r.toNat, by omega⟩
      exact ⟨q0, rfl, hr1, k', (DE.first hd).next hd' hR⟩)
    have HSP : Hid (∀ (W : World) (S : ByteArray), S.size ≤ 1000 → (∃ k, DiceAt W w.heap.size A L c k) → Calls Tryz.prog 27 #[.pointer (some ⟨w.heap.size, 0, none⟩), .string S, .string ⟨#[48, 49, 50, 57, 59, 58, 47, 45, 46, 32, 77, 65]⟩] W fun e w' => ∃ X : List UInt8, e = .returned (.string ⟨X.toArray⟩) ∧ X.length ≤ 2000 ∧ ∃ k', DE W w.heap.size c A L k' w') := hid (fun W S hS ⟨k, hd⟩ => by
      refine (spoil_any w.heap.size c k A L S ⟨#[48, 49, 50, 57, 59, 58, 47, 45, 46, 32, 77, 65]⟩ (by omega) (by decide) (by decide) W hd).mono ?_
      rintro e w' ⟨⟨X, rfl, hX⟩, ⟨k', hd'⟩, hP⟩
      exact ⟨X, rfl, by omega, k', hd', hP⟩)
    have HPL : Hid (∀ (W : World) (Af : Option Addr) (rows : List (List Str)) (cf : Nat), RowsIn W (fun k => w4.heap.size ≤ k ∧ k < W.heap.size) Af rows → rows.length ≤ 1000 → (∀ r ∈ rows, r.length ≤ 2 ∧ ∀ x ∈ r, x.length ≤ 2000) → Calls Tryz.prog 29 #[.slice Af rows.length cf] W fun e w' =>
        (∃ (A7 : Option Addr) (l7 : List RecD) (c7 : Nat), e = .returned (.slice A7 l7.length c7) ∧ (l7.length ≤ 1000 ∧ ∀ x ∈ l7, ∀ f ∈ x.2, f.1.length ≤ 2097152) ∧ RecsIn w' (fun k => k < w'.heap.size) A7 l7) ∧ Below W.heap.size W w') := hid (fun W Af rows cf hf hn hs => by
      refine (plain_any Af rows cf W.heap.size W (Nat.le_refl _) (hf.mono (fun k hk => hk.2)) (by omega) (fun r hr => by have := (hs r hr).1; omega) (fun r hr x hx => by have := (hs r hr).2 x hx; omega)).mono ?_
      rintro e w' ⟨⟨v, rfl, hrr⟩, hb⟩
      obtain ⟨A7, c7, rfl, _, _, hri⟩ := hrr.recsIn
      exact ⟨⟨A7, plainM rows, c7, rfl, ⟨by rw [plainM_len]; exact hn, fun x hx f hf => by obtain ⟨r, hr, hfr⟩ := plainM_memU hx f hf; have := (hs r hr).2 f.1 hfr; omega⟩, hri.mono (fun k hk => hk.2)⟩, hb⟩)
    have HCL := HL6
    have HEX : Hid (∀ (W : World) (Ax : Option Addr) (lx : List CurrD) (cx : Nat) (A7 : Option Addr) (l7 : List RecD) (c7 : Nat), CurrsIn W (fun k => k < W.heap.size) Ax lx → lx.length ≤ 1000 → RecsIn W (fun k => k < W.heap.size) A7 l7 → (l7.length ≤ 1000 ∧ ∀ x ∈ l7, ∀ f ∈ x.2, f.1.length ≤ 2097152) → ClassesIn W (fun k => k < W.heap.size) Ac cls → Below w.heap.size w W → Calls Tryz.prog 3 #[.slice Ax lx.length cx, .slice A7 l7.length c7, .slice Ac cls.length cc] W fun e w' => e = .returned (.bool true) ∧ Below W.heap.size W w') := hid (fun W Ax lx cx A7 l7 c7 h1 h2 h3 h4 h5 hb =>
      exact_any Ax lx cx A7 l7 c7 Ac cls cc W (HE.out _ hb) h1 (by omega) h3 (by have := h4.1; omega) h4.2 h5 HCL.out.2.1 HCL.out.2.2)
    have cW := urwriteF_any Al ls cl w4 (hlin'.mono (fun k hk => hk.2))
    have hw4n : (writeU ls).1 = [] ∨ (writeU ls).1 = ls.map rowU := by unfold writeU; split; exact .inl rfl; exact .inr rfl
    obtain ⟨⟨rows0, e0⟩, hwr⟩ : ∃ S, writeU ls = S := ⟨_, rfl⟩
    rw [hwr] at cW hw4n
    have hr3 : rows0.length ≤ 3 := by
      rcases hw4n with h | h
      · dsimp only at h; rw [h]; simp
      · dsimp only at h; rw [h, List.length_map]; omega
    have hrs : ∀ r ∈ rows0, r.length = 2 ∧ ∀ x ∈ r, x.length ≤ 20 := fun r hr => by
      rcases hw4n with h | h
      · dsimp only at h; rw [h] at hr; simp at hr
      · dsimp only at h; rw [h] at hr; exact hsm r hr
    unfold WriteOutF at cW
    have CW := hid cW
    have HRS := hid hrs
    have HLE : Hid (ls.length ≤ 1000) := hid (by omega)
    obtain ⟨NL, hNL⟩ : ∃ N, ls.length = N := ⟨_, rfl⟩
    have HNL := hid hNL
    rw [hNL] at CW HODD ⊢
    rw [HNC.out] at HEX
    clear hw14 hsm hl3 hLL hown hrl hlLL hlin hown' hlin' hw4n hwr hrs hlo he4 HCU HE3 HCI HB HDE4 hNL hz34 cW hg3
    go_wp2_with fail
    refine CW.out.mono ?_
    rintro e w6 ⟨⟨v6, L6, hL6, rfl, hrf6⟩, hb6⟩
    obtain ⟨A6, c6, hv6, _, _, _⟩ := hrf6.1.rowsIn
    subst hv6
    try dsimp only at hL6
    have hn6 : L6.length = rows0.length := by rw [← hL6, List.length_map]
    obtain ⟨n6, hn6'⟩ : ∃ n6, L6.length = n6 := ⟨_, rfl⟩
    have h63 : n6 ≤ 3 := by omega
    rw [hn6']
    rw [hn6'] at hrf6
    have hms : MS w4 w.heap.size c A L (.slice A6 n6 c6) L6 w6 := ⟨⟨_, (DE.first hd4.out).below hb6 hd4.out.lt⟩, hrf6, fun p hp => by
      have := HRS.out p.1 (by rw [← hL6]; exact List.mem_map_of_mem hp)
      exact ⟨this.1, fun x hx => by have := this.2 x hx; omega⟩, hd4.out.lt⟩
    have hs6 : Hid (∀ p ∈ L6, ∀ x ∈ p.1, x.length ≤ 1000) := hid (fun p hp x hx => by have := (HRS.out p.1 (by rw [← hL6]; exact List.mem_map_of_mem hp)).2 x hx; omega)
    have HMS := hid hms
    have HN6 := hid hn6'
    clear hrf6 hb6 hL6 hn6 hn6' hms CW HRS hr3
    by_cases h0 : 0 < n6
    · have h0z : (0 : Int) < (n6 : Int) := by omega
      obtain ⟨gf, cf, hvf, hgf5, hgf6⟩ := World.ownsRow.form HMS.out.f.1.1 (by rw [HN6.out]; exact h0)
      rw [HN6.out] at hvf
      injection hvf with e1 _ e3
      subst e1 e3
      go_wp2_with fail
      refine (HONE.out _ 2 (by omega) (by omega) HMS.out.dice).mono ?_
      rintro e w7 ⟨r7, rfl, k7, he7⟩
      have HMS7 := hid (HMS.out.played he7)
      clear he7 HMS
      cases r7 with
      | false =>
        go_wp2_with fail
        refine (HONE.out _ 2 (by omega) (by omega) HMS7.out.dice).mono ?_
        rintro e wO ⟨rO, rfl, kO, heO⟩
        have HMO := hid (HMS7.out.played heO)
        obtain ⟨kd, hdO⟩ := HMO.out.e
        have hmt := (HMO.out.toT (by rw [HN6.out]; omega)).2
        have hf := hmt.f
        have hfs := hmt.s
        have hfn := hmt.n
        have hrl : (L6.map (·.1)).length = _ := (List.length_map _).trans HN6.out
        obtain ⟨rowsT, hrT⟩ : ∃ R, L6.map (·.1) = R := ⟨_, rfl⟩
        rw [hrT] at hf hfs hfn hrl
        have HCO' := hid (HKC.out _ _ hdO)
        have HLO' := hid (HKL.out _ _ hdO)
        have HBO := hid (HBD.out _ _ hdO)
        have HDO := hid hdO
        have HF := hid hf
        have HFS := hid (And.intro hfn hfs)
        have HRL := hid hrl
        clear heO hmt hf hfs hfn hrl hrT hdO
        cases rO with
        | false =>
          have cP := HPL.out wO _ rowsT c6 HF.out HFS.out.1 HFS.out.2
          rw [HRL.out] at cP
          have CP := hid cP
          clear cP
          go_wp2_with fail
          refine CP.out.mono ?_
          rintro e w11 ⟨⟨A7, l7, c7, rfl, hl7, hr7⟩, hb7⟩
          have cX := HEX.out w11 Al ls cl A7 l7 c7 (currs_next HLO'.out hb7) HLE.out hr7 hl7 ((HCO'.out.below hb7).mono (fun k hk => Nat.lt_of_lt_of_le hk hb7.size)) (HBO.out.trans (hb7.mono HBO.out.size))
          rw [HNL.out] at cX
          have CX := hid cX
          have HBT := hid (HBO.out.trans (hb7.mono HBO.out.size))
          obtain ⟨N7, hN7⟩ : ∃ N, l7.length = N := ⟨_, rfl⟩
          rw [hN7] at CX ⊢
          clear cX hr7 hl7 hb7 hN7 CP
          go_wp2_with fail
          refine CX.out.mono ?_
          rintro e w12 ⟨rfl, hb12⟩
          have HBF := hid (HBT.out.trans (hb12.mono HBT.out.size))
          clear hb12 CX
          go_wp2
          go_ret
          exact ⟨rfl, HBF.out⟩
        | true =>
          go_wp2_with fail
          refine (HODD.out _ _ HDO.out).mono ?_
          rintro e w10 ⟨lx, Ax, cx, rfl, hlx, hinx, kx, hex⟩
          have HCX := hid (HKC.out _ _ (HDO.out.trans hex))
          have HBX := hid (HBD.out _ _ (HDO.out.trans hex))
          have HLX : Hid (CurrsIn w10 (fun k => k < w10.heap.size) Ax lx) := hid (hinx.mono (fun k hk => hk.2))
          have HLN := hid hlx
          have HFX : Hid (RowsIn w10 (fun k => w4.heap.size ≤ k ∧ k < w10.heap.size) _ rowsT) := hid ((HF.out.kept (fun b hb => hex.p.block b hb.2 (by omega))).mono (fun b hb => ⟨hb.1, Nat.lt_of_lt_of_le hb.2 hex.p.size⟩))
          have cP := HPL.out w10 _ rowsT c6 HFX.out HFS.out.1 HFS.out.2
          rw [HRL.out] at cP
          have CP := hid cP
          obtain ⟨NX, hNX⟩ : ∃ N, lx.length = N := ⟨_, rfl⟩
          have HNX' := hid hNX
          rw [hNX]
          clear cP hlx hinx hex hNX
          go_wp2_with fail
          refine CP.out.mono ?_
          rintro e w11 ⟨⟨A7, l7, c7, rfl, hl7, hr7⟩, hb7⟩
          have cX := HEX.out w11 Ax lx cx A7 l7 c7 (currs_next HLX.out hb7) HLN.out hr7 hl7 ((HCX.out.below hb7).mono (fun k hk => Nat.lt_of_lt_of_le hk hb7.size)) (HBX.out.trans (hb7.mono HBX.out.size))
          rw [HNX'.out] at cX
          have CX := hid cX
          have HBT := hid (HBX.out.trans (hb7.mono HBX.out.size))
          obtain ⟨N7, hN7⟩ : ∃ N, l7.length = N := ⟨_, rfl⟩
          rw [hN7] at CX ⊢
          clear cX hr7 hl7 hb7 hN7 CP
          go_wp2_with fail
          refine CX.out.mono ?_
          rintro e w12 ⟨rfl, hb12⟩
          have HBF := hid (HBT.out.trans (hb12.mono HBT.out.size))
          clear hb12 CX
          go_wp2
          go_ret
          exact ⟨rfl, HBF.out⟩
      | true =>
        go_wp2_with fail
        refine (HNX.out _ (n6 : Int) (by omega) (by omega) HMS7.out.dice).mono ?_
        rintro e w8 ⟨k, rfl, hk, k8, he8⟩
        have HMS8 := hid (HMS7.out.played he8)
        clear he8 HMS7
        go_wp2_with fail
        refine (HNX.out _ 2 (by omega) (by omega) HMS8.out.dice).mono ?_
        rintro e w9 ⟨j, rfl, hj, k9, he9⟩
        have HMS9 := hid (HMS8.out.played he9)
        clear he9 HMS8
        have hkn : k < L6.length := by rw [HN6.out]; omega
        obtain ⟨p, hp⟩ : ∃ p, L6[k] = p := ⟨_, rfl⟩
        have hpm : p ∈ L6 := by rw [← hp]; exact List.getElem_mem hkn
        obtain ⟨pl, pa, pcc⟩ := p
        have hp2 := (HMS9.out.s _ hpm).1
        try dsimp only at hp2
        obtain ⟨pb, poff, hpa, hpP, hpf, hpc⟩ := HMS9.out.f.at_ hpm (fun e => by rw [show pl = [] from e] at hp2; simp at hp2)
        try dsimp only at hpa hpc
        subst hpa
        have hjn : j < pl.length := by omega
        have hks := hs6.out _ hpm _ (List.getElem_mem hjn)
        try dsimp only at hks
        have hgb : gf ≠ pb := fun e => hpP.2.2 (by rw [e]; rfl)
        obtain ⟨S0, hS0⟩ : ∃ S0, ba pl[j] = S0 := ⟨_, rfl⟩
        have hS0z : S0.size ≤ 1000 := by rw [← hS0, Lib.size_eq]; simpa [ba] using hks
        have HM9 : Hid (MS w4 w.heap.size c A L (.slice (some ⟨gf, 0, none⟩) n6 c6) L6 w9.drew) := hid (HMS9.out.next (Below.refl _ w9).drew)
        have HFZ : Hid (∀ W : World, MS w4 w.heap.size c A L (.slice (some ⟨gf, 0, none⟩) n6 c6) L6 W → W.frozen? ⟨pb, poff + j, none⟩ = false ∧ W.cell? ⟨pb, poff + j, none⟩ = some (.string S0)) := hid (fun W hm => by
          obtain ⟨pb', poff', e1, _, hf, hc⟩ := hm.f.at_ hpm (fun e => by rw [show pl = [] from e] at hp2; simp at hp2)
          injection e1 with e1
          injection e1 with e1 e2
          subst e1 e2
          exact ⟨hf (poff + j), by rw [hc j _ (List.getElem?_eq_getElem hjn)]; rw [← hS0]⟩)
        have HRW := hid (fun (W : World) (hm : MS w4 w.heap.size c A L (.slice (some ⟨gf, 0, none⟩) n6 c6) L6 W) => by
          have h1 := World.ownsRow.cells hm.f.1.1 (g := gf) rfl k (rowV (pl, some ⟨pb, poff, none⟩, pcc)) (by rw [List.getElem?_map, List.getElem?_eq_getElem hkn, hp]; rfl)
          rw [Addr.add_lit, Nat.zero_add] at h1
          unfold rowV at h1
          dsimp only at h1
          rw [hp2] at h1
          exact h1)
        have hj2 : (j : Int) < 2 := hj
        have hk' := HRW.out _ HM9.out
        obtain ⟨hf9, hcj'⟩ := HFZ.out _ HM9.out
        clear HMS9 hpP hpc hks hpf
        go_upto_region 9 with fail
        go_region_with (first
          | (go_at_call 27; refine (HSP.out _ S0 hS0z HM9.out.dice).mono ?_; rintro e wS ⟨X, rfl, hX, kS, heS⟩
             have HMSS := hid (HM9.out.played heS)
             have hk' := HRW.out _ HMSS.out
             obtain ⟨hfS, hcS⟩ := HFZ.out _ HMSS.out
             clear heS))
        all_goals
          obtain ⟨L7, hL7, hms7⟩ := HMSS.out.store hpm rfl (poff + j) X hX
          have hms8 : MS w4 w.heap.size c A L (.slice (some ⟨gf, 0, none⟩) n6 c6) L7 (wS.setCell ⟨pb, poff + j, none⟩ (.string ⟨X.toArray⟩)) := hms7
          have HMS7 := hid hms8
          have HN7 : Hid (L7.length = n6) := hid (hL7.trans HN6.out)
          clear hms7 hms8 hL7 HMSS HRW HFZ HM9 hfS hcS hk' hcj' hS0 hp hpm HN6 hs6 hf9
          generalize (wS.setCell ⟨pb, poff + j, none⟩ (.string ⟨X.toArray⟩)) = w7' at HMS7 ⊢
          go_wp2_with fail
          refine (HONE.out _ 2 (by omega) (by omega) HMS7.out.dice).mono ?_
          rintro e wO ⟨rO, rfl, kO, heO⟩
          have HMO := hid (HMS7.out.played heO)
          obtain ⟨kd, hdO⟩ := HMO.out.e
          have hmt := (HMO.out.toT (by rw [HN7.out]; omega)).2
          have hf := hmt.f
          have hfs := hmt.s
          have hfn := hmt.n
          have hrl : (L7.map (·.1)).length = _ := (List.length_map _).trans HN7.out
          obtain ⟨rowsT, hrT⟩ : ∃ R, L7.map (·.1) = R := ⟨_, rfl⟩
          rw [hrT] at hf hfs hfn hrl
          have HCO' := hid (HKC.out _ _ hdO)
          have HLO' := hid (HKL.out _ _ hdO)
          have HBO := hid (HBD.out _ _ hdO)
          have HDO := hid hdO
          have HF := hid hf
          have HFS := hid (And.intro hfn hfs)
          have HRL := hid hrl
          clear heO hmt hf hfs hfn hrl hrT hdO
          cases rO with
          | false =>
            have cP := HPL.out wO _ rowsT c6 HF.out HFS.out.1 HFS.out.2
            rw [HRL.out] at cP
            have CP := hid cP
            clear cP
            go_wp2_with fail
            refine CP.out.mono ?_
            rintro e w11 ⟨⟨A7, l7, c7, rfl, hl7, hr7⟩, hb7⟩
            have cX := HEX.out w11 Al ls cl A7 l7 c7 (currs_next HLO'.out hb7) HLE.out hr7 hl7 ((HCO'.out.below hb7).mono (fun k hk => Nat.lt_of_lt_of_le hk hb7.size)) (HBO.out.trans (hb7.mono HBO.out.size))
            rw [HNL.out] at cX
            have CX := hid cX
            have HBT := hid (HBO.out.trans (hb7.mono HBO.out.size))
            obtain ⟨N7, hN7⟩ : ∃ N, l7.length = N := ⟨_, rfl⟩
            rw [hN7] at CX ⊢
            clear cX hr7 hl7 hb7 hN7 CP
            go_wp2_with fail
            refine CX.out.mono ?_
            rintro e w12 ⟨rfl, hb12⟩
            have HBF := hid (HBT.out.trans (hb12.mono HBT.out.size))
            clear hb12 CX
            go_wp2
            go_ret
            exact ⟨rfl, HBF.out⟩
          | true =>
            go_wp2_with fail
            refine (HODD.out _ _ HDO.out).mono ?_
            rintro e w10 ⟨lx, Ax, cx, rfl, hlx, hinx, kx, hex⟩
            have HCX := hid (HKC.out _ _ (HDO.out.trans hex))
            have HBX := hid (HBD.out _ _ (HDO.out.trans hex))
            have HLX : Hid (CurrsIn w10 (fun k => k < w10.heap.size) Ax lx) := hid (hinx.mono (fun k hk => hk.2))
            have HLN := hid hlx
            have HFX : Hid (RowsIn w10 (fun k => w4.heap.size ≤ k ∧ k < w10.heap.size) _ rowsT) := hid ((HF.out.kept (fun b hb => hex.p.block b hb.2 (by omega))).mono (fun b hb => ⟨hb.1, Nat.lt_of_lt_of_le hb.2 hex.p.size⟩))
            have cP := HPL.out w10 _ rowsT c6 HFX.out HFS.out.1 HFS.out.2
            rw [HRL.out] at cP
            have CP := hid cP
            obtain ⟨NX, hNX⟩ : ∃ N, lx.length = N := ⟨_, rfl⟩
            have HNX' := hid hNX
            rw [hNX]
            clear cP hlx hinx hex hNX
            go_wp2_with fail
            refine CP.out.mono ?_
            rintro e w11 ⟨⟨A7, l7, c7, rfl, hl7, hr7⟩, hb7⟩
            have cX := HEX.out w11 Ax lx cx A7 l7 c7 (currs_next HLX.out hb7) HLN.out hr7 hl7 ((HCX.out.below hb7).mono (fun k hk => Nat.lt_of_lt_of_le hk hb7.size)) (HBX.out.trans (hb7.mono HBX.out.size))
            rw [HNX'.out] at cX
            have CX := hid cX
            have HBT := hid (HBX.out.trans (hb7.mono HBX.out.size))
            obtain ⟨N7, hN7⟩ : ∃ N, l7.length = N := ⟨_, rfl⟩
            rw [hN7] at CX ⊢
            clear cX hr7 hl7 hb7 hN7 CP
            go_wp2_with fail
            refine CX.out.mono ?_
            rintro e w12 ⟨rfl, hb12⟩
            have HBF := hid (HBT.out.trans (hb12.mono HBT.out.size))
            clear hb12 CX
            go_wp2
            go_ret
            exact ⟨rfl, HBF.out⟩
    · have h0z : ¬ (0 : Int) < (n6 : Int) := by omega
      obtain rfl : n6 = 0 := by omega
      go_wp2_with fail
      refine (HONE.out _ 2 (by omega) (by omega) HMS.out.dice).mono ?_
      rintro e wO ⟨rO, rfl, kO, heO⟩
      have HMO := hid (HMS.out.played heO)
      obtain ⟨kd, hdO⟩ := HMO.out.e
      have hmt := (HMO.out.toT (by rw [HN6.out]; omega)).2
      have hf := hmt.f
      have hfs := hmt.s
      have hfn := hmt.n
      have hrl : (L6.map (·.1)).length = _ := (List.length_map _).trans HN6.out
      obtain ⟨rowsT, hrT⟩ : ∃ R, L6.map (·.1) = R := ⟨_, rfl⟩
      rw [hrT] at hf hfs hfn hrl
      have HCO' := hid (HKC.out _ _ hdO)
      have HLO' := hid (HKL.out _ _ hdO)
      have HBO := hid (HBD.out _ _ hdO)
      have HDO := hid hdO
      have HF := hid hf
      have HFS := hid (And.intro hfn hfs)
      have HRL := hid hrl
      clear heO hmt hf hfs hfn hrl hrT hdO
      cases rO with
      | false =>
        have cP := HPL.out wO _ rowsT c6 HF.out HFS.out.1 HFS.out.2
        rw [HRL.out] at cP
        have CP := hid cP
        clear cP
        go_wp2_with fail
        refine CP.out.mono ?_
        rintro e w11 ⟨⟨A7, l7, c7, rfl, hl7, hr7⟩, hb7⟩
        have cX := HEX.out w11 Al ls cl A7 l7 c7 (currs_next HLO'.out hb7) HLE.out hr7 hl7 ((HCO'.out.below hb7).mono (fun k hk => Nat.lt_of_lt_of_le hk hb7.size)) (HBO.out.trans (hb7.mono HBO.out.size))
        rw [HNL.out] at cX
        have CX := hid cX
        have HBT := hid (HBO.out.trans (hb7.mono HBO.out.size))
        obtain ⟨N7, hN7⟩ : ∃ N, l7.length = N := ⟨_, rfl⟩
        rw [hN7] at CX ⊢
        clear cX hr7 hl7 hb7 hN7 CP
        go_wp2_with fail
        refine CX.out.mono ?_
        rintro e w12 ⟨rfl, hb12⟩
        have HBF := hid (HBT.out.trans (hb12.mono HBT.out.size))
        clear hb12 CX
        go_wp2
        go_ret
        exact ⟨rfl, HBF.out⟩
      | true =>
        go_wp2_with fail
        refine (HODD.out _ _ HDO.out).mono ?_
        rintro e w10 ⟨lx, Ax, cx, rfl, hlx, hinx, kx, hex⟩
        have HCX := hid (HKC.out _ _ (HDO.out.trans hex))
        have HBX := hid (HBD.out _ _ (HDO.out.trans hex))
        have HLX : Hid (CurrsIn w10 (fun k => k < w10.heap.size) Ax lx) := hid (hinx.mono (fun k hk => hk.2))
        have HLN := hid hlx
        have HFX : Hid (RowsIn w10 (fun k => w4.heap.size ≤ k ∧ k < w10.heap.size) _ rowsT) := hid ((HF.out.kept (fun b hb => hex.p.block b hb.2 (by omega))).mono (fun b hb => ⟨hb.1, Nat.lt_of_lt_of_le hb.2 hex.p.size⟩))
        have cP := HPL.out w10 _ rowsT c6 HFX.out HFS.out.1 HFS.out.2
        rw [HRL.out] at cP
        have CP := hid cP
        obtain ⟨NX, hNX⟩ : ∃ N, lx.length = N := ⟨_, rfl⟩
        have HNX' := hid hNX
        rw [hNX]
        clear cP hlx hinx hex hNX
        go_wp2_with fail
        refine CP.out.mono ?_
        rintro e w11 ⟨⟨A7, l7, c7, rfl, hl7, hr7⟩, hb7⟩
        have cX := HEX.out w11 Ax lx cx A7 l7 c7 (currs_next HLX.out hb7) HLN.out hr7 hl7 ((HCX.out.below hb7).mono (fun k hk => Nat.lt_of_lt_of_le hk hb7.size)) (HBX.out.trans (hb7.mono HBX.out.size))
        rw [HNX'.out] at cX
        have CX := hid cX
        have HBT := hid (HBX.out.trans (hb7.mono HBX.out.size))
        obtain ⟨N7, hN7⟩ : ∃ N, l7.length = N := ⟨_, rfl⟩
        rw [hN7] at CX ⊢
        clear cX hr7 hl7 hb7 hN7 CP
        go_wp2_with fail
        refine CX.out.mono ?_
        rintro e w12 ⟨rfl, hb12⟩
        have HBF := hid (HBT.out.trans (hb12.mono HBT.out.size))
        clear hb12 CX
        go_wp2
        go_ret
        exact ⟨rfl, HBF.out⟩
  · rw [decide_eq_false hl] at cL
    clear h
    go_enter Tryz.func4, Tryz.ntmps4
    go_wp2_with fail
    refine cL.mono ?_
    rintro e w' ⟨rfl, rfl⟩
    go_wp2_with fail
    refine (cK.out _ (Below.refl _ _)).mono ?_
    rintro e w2 ⟨rfl, hb2⟩
    have HB2 := hid hb2
    clear hb2
    go_wp2
    go_ret
    exact ⟨rfl, HB2.out⟩
end Go.Proofs.YtpaejkhaiifgdaaGreatDoor.S11

