/-
  The walk of RequestsMade. Conditions: the numbers lie in memory as a slice of ints; the variables hold what their text lays. A slice of integers that came in: .. Conditions: as stated.
-/
import Derived.Test.YtlgmanbilaminaaGreatDoorMN26
import Derived.Test.YtlgmanbilaminaaGreatDoorMN27
import Derived.Test.YtlgmanbilaminaaGreatDoorMN28
import Derived.Test.YtlgmanbilaminaaGreatDoorMN30
set_option linter.unusedVariables false
namespace Go.Proofs.YtlgmanbilaminaaGreatDoor.S12
open Go Go.Proofs Go.RowKit Go.Lib Go.Proofs.YtlgmanbilaminaaGreatDoor Go.Proofs.YtlgmanbilaminaaGreatDoor.S10 Go.Proofs.YtlgmanbilaminaaGreatDoor.S11
set_option maxHeartbeats 32000000 in
set_option maxRecDepth 100000 in
theorem made_any (A : Option Addr) (L : List Int) (c FB fo fc : Nat) (hlen : L.length ≤ 9223372036854775807) (w : World) (hE : S3.Env w) (h : IntsIn w w.heap.size A L)
    (hf : FeatAt w FB fo fc) (hFB : FB < w.heap.size) :
    Calls Tryz.prog 4 #[.slice A L.length c] w fun e w' => e = .returned (.bool true) ∧ Below w.heap.size w w' := by
  have cL := light_any A L.length c w
  have hGf : 0 < w.heap.size := World.block_lt_of_cell? w _ hf.c0
  have HFT := hid (fun w' (hb : Below w.heap.size w w') => hf.kept (w' := w') (hb.block _ hGf) (hb.block _ hFB))
  have cK := hid (fun w' (hb : Below w.heap.size w w') => awake_any w' (hE.below hb))
  have cK' := cK.out
  unfold Says at cK'
  have cK := hid cK'
  have HE := hid (fun w' (hb : Below w.heap.size w w') => hE.below hb)
  clear cK' hf hE
  by_cases hl : L.length ≤ 400
  · rw [decide_eq_true hl] at cL
    have cR := hid (fun w h => roll_any A L c hl w h)
    have HI := hid h
    clear h
    go_enter Tryz.func4, Tryz.ntmps4
    go_wp2_with fail
    refine cL.mono ?_
    rintro e w' ⟨rfl, rfl⟩
    go_wp2_with fail
    refine (cR.out _ HI.out).mono ?_
    rintro e w1 ⟨rfl, hd1, hb1⟩
    have hgl := hd1.lt
    have HB : Hid (∀ W k, DE w1 w.heap.size c A L k W → Below w.heap.size w W) := hid (fun W k he => hb1.trans (he.toBelow (Nat.le_of_lt hgl) (Nat.le_refl _)))
    have cG := hid (grid_any w.heap.size c 0 A L w1 hd1)
    clear hd1 hb1 cL cR HI
    go_wp2_with fail
    refine cG.out.mono ?_
    rintro e w2 ⟨d, s, b, m, k2, rfl, hmg, he2⟩
    have g1 : 1 ≤ d ∧ d ≤ 5 := hmg.1
    have g2 : 2 ≤ s ∧ s ≤ 8 := hmg.2.1
    have CL : Hid (Calls Tryz.prog 25 #[.pointer (some ⟨w.heap.size, 0, none⟩), .agg #[.int .i64 d, .int .i64 s, .int .i64 b, .int .i64 m], .int .i64 1, .slice none 0 0, .int .i64 6] w2 fun e w' => ∃ (ls : List ClassD) (Al : Option Addr) (cl k : Nat), e = .returned (.slice Al ls.length cl) ∧ ls.length ≤ 6 ∧ (ls.length ≤ cl ∧ cl ≤ 9223372036854775807) ∧ ClassesOk d s 1 [] ls ∧ ClassesIn w' (fun k => w.heap.size < k ∧ k < w'.heap.size) Al ls ∧ DE w1 w.heap.size c A L k w') := hid (by
      refine (classes_any w.heap.size c k2 FB fo fc A L d s b m 1 6 (by omega) (by omega) (by omega) (by omega) (by omega) (by omega) (by omega) none [] 0 (by simp) w2 he2.d (.inl rfl) (HFT.out _ (HB.out _ _ he2)) hGf hFB).mono ?_
      rintro e w' ⟨ls, v, k', rfl, hl6, hok, hrow, he⟩
      obtain ⟨A5, c5, rfl, h1, h2, hin5⟩ := hrow.classesIn
      have hz2 : w.heap.size < w2.heap.size := Nat.lt_of_lt_of_le hgl he2.p.size
      exact ⟨ls, A5, c5, k', rfl, hl6, ⟨h1, h2⟩, hok, hin5.mono (fun k hk => by rcases hk with h | h; exact ⟨by omega, h.2⟩; exact ⟨by omega, h.2⟩), he2.trans he⟩)
    clear he2 cG hmg
    go_wp2_with fail
    refine CL.out.mono ?_
    rintro e w3 ⟨cls, Ac, cc, k3, rfl, hl6, hcc, hok, hcin, he3⟩
    have hCU := requests_any w.heap.size c k3 A L Ac cls cc (by omega) w3 he3.d (hcin.mono (fun k hk => hk.2))
    have HCU := hid hCU
    have HE3 := hid he3
    have HTH := hid (three_of hok)
    have HL6 := hid (And.intro hl6 hcc)
    obtain ⟨NC, hNC⟩ : ∃ F, cls.length = F := ⟨_, rfl⟩
    have HNC := hid hNC
    rw [hNC] at HCU ⊢
    clear hCU hcin he3 hl6 hok CL hNC hcc g1 g2 HFT
    go_wp2_with fail
    refine HCU.out.mono ?_
    rintro e w4 ⟨ls, v, k4, rfl, hlo, hlr, he4⟩
    have hw14 : DE w1 w.heap.size c A L k4 w4 := HE3.out.trans he4
    have HDE4 := hid hw14
    have hg4 : w.heap.size < w4.heap.size := Nat.lt_of_lt_of_le hgl hw14.p.size
    have hg3 : w.heap.size < w3.heap.size := Nat.lt_of_lt_of_le hgl HE3.out.p.size
    have hz34 : w3.heap.size ≤ w4.heap.size := he4.p.size
    have hd4 := hid hw14.d
    have HBD : Hid (∀ W k, DE w4 w.heap.size c A L k W → Below w.heap.size w W) := hid (fun W k he => HB.out _ _ (HDE4.out.trans he))
    obtain ⟨_, _, hsm, hl3, hsz20⟩ := reqs_back HTH.out hlo
    obtain ⟨LL, hLL, hown, hrl⟩ := hlr
    have hlLL : LL.length = ls.length := by rw [← hLL, List.length_map]
    obtain ⟨Al, cl, rfl, _, _, hlin⟩ := ReqRow.reqsIn ⟨LL, hLL, hown, hrl⟩
    have hown' : w4.ownsRow w3.heap.size 61 4 (.slice Al ls.length cl) LL.length (reqVals LL) := by rw [hlLL]; exact hown
    have hlin' : ReqsIn w4 (fun k => w3.heap.size ≤ k ∧ k < w4.heap.size) Al ls := hlin.mono (fun k hk => by rcases hk with h | h; exact h; exact h)
    have HKL : Hid (∀ W k, DE w4 w.heap.size c A L k W → ReqsIn W (fun k => k < W.heap.size) Al ls) := hid (fun W k he =>
      (hlin'.kept (fun b hb => he.p.block b hb.2 (by omega))).mono (fun b hb => by have := he.p.size; omega))
    have HODD : Hid (∀ (W : World) (k : Nat), DE w4 w.heap.size c A L k W → Calls Tryz.prog 30 #[.pointer (some ⟨w.heap.size, 0, none⟩), .slice Al ls.length cl] W (OddP w.heap.size c A L W)) := hid (fun W k he => by
      have hz := he.p.size
      refine oddReq_any w.heap.size c k w3.heap.size A L LL _ W he.d (he.p.row hown' (fun k hk => ?_)) hg3 (fun p hp => ((hrl p hp).kept (fun b hb => he.p.block b hb.2 ?_)).mono (fun b hb => ⟨?_, ?_⟩)) (by omega) (fun p hp => by have := hsz20 p.1 (by rw [← hLL]; exact List.mem_map_of_mem hp); omega)
      · have := World.ownsRow.lt hown' k hk
        omega
      · omega
      · omega
      · omega)
    have HONE : Hid (∀ (W : World) (q : Int), 1 ≤ q → q ≤ 4294967296 → (∃ k, DiceAt W w.heap.size A L c k) → Calls Tryz.prog 27 #[.pointer (some ⟨w.heap.size, 0, none⟩), .int .i64 q] W fun e w' => ∃ r : Bool, e = .returned (.bool r) ∧ ∃ k', DE W w.heap.size c A L k' w') := hid (fun W q hq hq2 ⟨k, hd⟩ => by
      refine (Go.Proofs.YtlgmanbilaminaaGreatDoor.one_any w.heap.size c k A L q hq2 hq W hd).mono ?_
      rintro e w' ⟨⟨r, rfl⟩, ⟨k', hd'⟩, hR⟩
      exact ⟨r, rfl, k', (DE.first hd).next hd' hR⟩)
    have HNX : Hid (∀ (W : World) (q : Int), 1 ≤ q → q ≤ 4294967296 → (∃ k, DiceAt W w.heap.size A L c k) → Calls Tryz.prog 28 #[.pointer (some ⟨w.heap.size, 0, none⟩), .int .i64 q] W fun e w' => ∃ r : Nat, e = .returned (.int .i64 (r : Int)) ∧ (r : Int) < q ∧ ∃ k', DE W w.heap.size c A L k' w') := hid (fun W q hq hq2 ⟨k, hd⟩ => by
      refine (next_any w.heap.size c k A L q hq2 W hd).mono ?_
      rintro e w' ⟨⟨r, rfl, hr⟩, ⟨k', hd'⟩, hR⟩
      obtain ⟨hr0, hr1⟩ := hr hq
      obtain ⟨q0, rfl⟩ : ∃ q : Nat, r = (q : Int) := ⟨r.toNat, by omega⟩
      exact ⟨q0, rfl, hr1, k', (DE.first hd).next hd' hR⟩)
    have HSP : Hid (∀ (W : World) (S : ByteArray), S.size ≤ 1000 → (∃ k, DiceAt W w.heap.size A L c k) → Calls Tryz.prog 29 #[.pointer (some ⟨w.heap.size, 0, none⟩), .string S, .string ⟨#[48, 49, 50, 57, 59, 58, 47, 45, 46, 32, 77, 65]⟩] W fun e w' => ∃ X : List UInt8, e = .returned (.string ⟨X.toArray⟩) ∧ X.length ≤ 2000 ∧ ∃ k', DE W w.heap.size c A L k' w') := hid (fun W S hS ⟨k, hd⟩ => by
      refine (spoil_any w.heap.size c k A L S ⟨#[48, 49, 50, 57, 59, 58, 47, 45, 46, 32, 77, 65]⟩ (by omega) (by decide) (by decide) W hd).mono ?_
      rintro e w' ⟨⟨X, rfl, hX⟩, ⟨k', hd'⟩, hP⟩
      exact ⟨X, rfl, by omega, k', hd', hP⟩)
    have HPL : Hid (∀ (W : World) (Af : Option Addr) (rows : List (List Str)) (cf : Nat), RowsIn W (fun k => w4.heap.size ≤ k ∧ k < W.heap.size) Af rows → rows.length ≤ 1000 → (∀ r ∈ rows, r.length ≤ 4 ∧ ∀ x ∈ r, x.length ≤ 2000) → Calls Tryz.prog 31 #[.slice Af rows.length cf] W fun e w' =>
        (∃ (A7 : Option Addr) (l7 : List RecD) (c7 : Nat), e = .returned (.slice A7 l7.length c7) ∧ (l7.length ≤ 1000 ∧ ∀ x ∈ l7, ∀ f ∈ x.2, f.1.length ≤ 2097152) ∧ RecsIn w' (fun k => W.heap.size ≤ k ∧ k < w'.heap.size) A7 l7) ∧ Below W.heap.size W w') := hid (fun W Af rows cf hf hn hs => by
      refine (plain_any Af rows cf W.heap.size W (Nat.le_refl _) (hf.mono (fun k hk => hk.2)) (by omega) (fun r hr => by have := (hs r hr).1; omega) (fun r hr x hx => by have := (hs r hr).2 x hx; omega)).mono ?_
      rintro e w' ⟨⟨v, rfl, hrr⟩, hb⟩
      obtain ⟨A7, c7, rfl, _, _, hri⟩ := hrr.recsIn
      exact ⟨⟨A7, plainM rows, c7, rfl, ⟨by rw [plainM_len]; exact hn, fun x hx f hf => by obtain ⟨r, hr, hfr⟩ := plainM_memQ hx f hf; have := (hs r hr).2 f.1 hfr; omega⟩, hri⟩, hb⟩)
    have HEX : Hid (∀ (W : World) (Ax : Option Addr) (lx : List ReqD) (cx : Nat) (A7 : Option Addr) (l7 : List RecD) (c7 : Nat) (st : ByteArray), ReqsIn W (fun k => k < W.heap.size) Ax lx → (lx.length ≤ 19 ∧ ∀ r ∈ lx, r.s.length ≤ 20 ∧ r.l.length ≤ 20) → RecsIn W (fun k => k < W.heap.size) A7 l7 → (l7.length ≤ 1000 ∧ ∀ x ∈ l7, ∀ f ∈ x.2, f.1.length ≤ 2097152) → Below w.heap.size w W →
        Calls Tryz.prog 3 #[.slice Ax lx.length cx, .slice A7 l7.length c7, .string st] W fun e w' => e = .returned (.bool true) ∧ Below W.heap.size W w') := hid (fun W Ax lx cx A7 l7 c7 st h1 h2 h3 h4 hb =>
      exact_any Ax lx cx A7 l7 c7 st W (HE.out _ hb) h1 (by have := h2.1; omega) (fun r hr => by have := (h2.2 r hr).1; omega) (fun r hr => by have := (h2.2 r hr).2; omega) (said_small (by
        have : (wantF lx (lst st)).length ≤ lx.length := List.length_filter_le _ _
        have := h2.1
        omega)) h3 (by have := h4.1; omega) h4.2)
    have HSTR : Hid (∀ (W : World) (r : Nat), r < 6 → ∃ (xa : UInt8) (S : ByteArray), (Go.convert 59 9 (.slice (some ⟨W.heap.size, 0, none⟩) 1 1)).run Tryz.prog (W.alloc (.cells #[.int .u8 (48 + (r : Int))] 5)) = .ok (.string ⟨#[xa]⟩) (W.alloc (.cells #[.int .u8 (48 + (r : Int))] 5)) ∧ (∀ w, (Op.stringOp .add (⟨#[115]⟩ : ByteArray) ⟨#[xa]⟩).run Tryz.prog w = .ok (.string S) w) ∧ (⟨#[115]⟩ : ByteArray) ++ ⟨#[xa]⟩ = S) := hid (fun W r hr => by
      have hlb : [Value.int .u8 (48 + (r : Int))] = Go.Lib.byteCells [UInt8.ofNat (48 + r)] := by
        rcases (show r = 0 ∨ r = 1 ∨ r = 2 ∨ r = 3 ∨ r = 4 ∨ r = 5 by omega) with rfl | rfl | rfl | rfl | rfl | rfl <;> rfl
      refine ⟨UInt8.ofNat (48 + r), _, ?_, fun w => run_string_add_sum (w := w) _ _ (by show (1 : Nat) + 1 ≤ 9223372036854775807; omega), rfl⟩
      have ho := World.ownsRow_lit (base := W.heap.size) (e := 5) (size := 1) W #[.int .u8 (48 + (r : Int))] 1 (Nat.le_refl _) (by unfold maxLen; omega) rfl
      rw [show (#[Value.int .u8 (48 + (r : Int))] : Array Value).toList = _ from hlb] at ho
      exact row_string (P := Tryz.prog) (l := [UInt8.ofNat (48 + r)]) ho 59 5 9 Tryz.underlying59 Tryz.underlying5 Tryz.underlying9)
    have HLE0 : Hid (ls.length ≤ 19 ∧ ∀ r ∈ ls, r.s.length ≤ 20 ∧ r.l.length ≤ 20) := hid ⟨by omega, fun r hr => by have := hsz20 r hr; omega⟩
    have HG0 := hid hgl
    have cW := qrwriteF_any Al ls cl w4 (hlin'.mono (fun k hk => hk.2))
    have hw4n : (writeQ ls).1 = [] ∨ (writeQ ls).1 = ls.map rowQ := by unfold writeQ; split; exact .inl rfl; exact .inr rfl
    obtain ⟨⟨rows0, e0⟩, hwr⟩ : ∃ S, writeQ ls = S := ⟨_, rfl⟩
    rw [hwr] at cW hw4n
    have hr3 : rows0.length ≤ 15 := by
      rcases hw4n with h | h
      · dsimp only at h; rw [h]; simp
      · dsimp only at h; rw [h, List.length_map]; omega
    have hrs : ∀ r ∈ rows0, r.length = 4 ∧ ∀ x ∈ r, x.length ≤ 20 := fun r hr => by
      rcases hw4n with h | h
      · dsimp only at h; rw [h] at hr; simp at hr
      · dsimp only at h; rw [h] at hr; exact hsm r hr
    unfold WriteOutF at cW
    have CW := hid cW
    have HRS := hid hrs
    have HLE := HLE0
    obtain ⟨NL, hNL⟩ : ∃ N, ls.length = N := ⟨_, rfl⟩
    have HNL := hid hNL
    rw [hNL] at CW HODD ⊢
    clear hw14 hsm hl3 hsz20 hLL hown hrl hlLL hlin hown' hlin' hw4n hwr hrs hlo he4 HCU HE3 HB HDE4 hNL hz34 cW hg3
    go_wp2_with fail
    refine CW.out.mono ?_
    rintro e w6 ⟨⟨v6, L6, hL6, rfl, hrf6⟩, hb6⟩
    obtain ⟨A6, c6, hv6, _, _, _⟩ := hrf6.1.rowsIn
    subst hv6
    try dsimp only at hL6
    have hn6 : L6.length = rows0.length := by rw [← hL6, List.length_map]
    obtain ⟨n6, hn6'⟩ : ∃ n6, L6.length = n6 := ⟨_, rfl⟩
    have h63 : n6 ≤ 15 := by omega
    rw [hn6']
    rw [hn6'] at hrf6
    have hms : MS w4 w.heap.size c A L (.slice A6 n6 c6) L6 w6 := ⟨⟨_, (DE.first hd4.out).below hb6 hd4.out.lt⟩, hrf6, fun p hp => by
      have := HRS.out p.1 (by rw [← hL6]; exact List.mem_map_of_mem hp)
      exact ⟨this.1, fun x hx => by have := this.2 x hx; omega⟩, hd4.out.lt⟩
    have hs6 : Hid (∀ p ∈ L6, ∀ x ∈ p.1, x.length ≤ 1000) := hid (fun p hp x hx => by have := (HRS.out p.1 (by rw [← hL6]; exact List.mem_map_of_mem hp)).2 x hx; omega)
    have HMS := hid hms
    have HN6 := hid hn6'
    clear hrf6 hb6 hL6 hn6 hn6' hms CW HRS hr3
    by_cases h0 : 0 < n6
    · have h0z : (0 : Int) < (n6 : Int) := by omega
      obtain ⟨gf, cf, hvf, hgf5, hgf6⟩ := World.ownsRow.form HMS.out.f.1.1 (by rw [HN6.out]; exact h0)
      rw [HN6.out] at hvf
      injection hvf with e1 _ e3
      subst e1 e3
      go_wp2_with fail
      refine (HONE.out _ 2 (by omega) (by omega) HMS.out.dice).mono ?_
      rintro e w7 ⟨r7, rfl, k7, he7⟩
      have HMS7 := hid (HMS.out.played he7)
      clear he7 HMS
      cases r7 with
      | false =>
        go_wp2_with fail
        refine (HONE.out _ 2 (by omega) (by omega) HMS7.out.dice).mono ?_
        rintro e wO ⟨rO, rfl, kO, heO⟩
        have HMO := hid (HMS7.out.played heO)
        obtain ⟨kd, hdO⟩ := HMO.out.e
        have hmt := (HMO.out.toT (by rw [HN6.out]; omega)).2
        have hf := hmt.f
        have hfs := hmt.s
        have hfn := hmt.n
        have hrl : (L6.map (·.1)).length = _ := (List.length_map _).trans HN6.out
        obtain ⟨rowsT, hrT⟩ : ∃ R, L6.map (·.1) = R := ⟨_, rfl⟩
        rw [hrT] at hf hfs hfn hrl
        have HLO' := hid (HKL.out _ _ hdO)
        have HBO := hid (HBD.out _ _ hdO)
        have HDO := hid hdO
        have HF := hid hf
        have HFS := hid (And.intro hfn hfs)
        have HRL := hid hrl
        clear heO hmt hf hfs hfn hrl hrT hdO
        cases rO with
        | false =>
          have cP := HPL.out wO _ rowsT c6 HF.out HFS.out.1 HFS.out.2
          rw [HRL.out] at cP
          have CP := hid cP
          clear cP
          go_wp2_with fail
          refine CP.out.mono ?_
          rintro e w11 ⟨⟨A7, l7, c7, rfl, hl7, hr7⟩, hb7⟩
          have hdX := HDO.out
          have HDX := hid (hdX.below (hb7.mono hdX.p.size) hd4.out.lt)
          have HR7 := hid hr7
          have HL7 := hid hl7
          obtain ⟨N7, hN7⟩ : ∃ N, l7.length = N := ⟨_, rfl⟩
          have HN7Q := hid hN7
          have HZ4 : Hid (w4.heap.size ≤ wO.heap.size) := hid hdX.p.size
          rw [hN7]
          clear hr7 hl7 hb7 hN7 CP hdX
          go_wp2_with fail
          refine (HNX.out w11 6 (by omega) (by omega) ⟨_, HDX.out.d⟩).mono ?_
          rintro e w12 ⟨rr, rfl, hrr6, k12, he12⟩
          have hrn6 : rr < 6 := by omega
          obtain ⟨xa, S, hcv, hadd, hSe⟩ := HSTR.out w12 rr hrn6
          have HSE := hid hSe
          have hqr : IntKind.i64.wrap (48 + (rr : Int)) = 48 + (rr : Int) := IntWalk.i64_in _ (by omega)
          have hqu : IntKind.u8.wrap (48 + (rr : Int)) = 48 + (rr : Int) := by simp [IntKind.wrap, IntKind.bits, IntKind.signed]; omega
          have hd12 := HDX.out.trans he12
          have hba := (Below.refl w12.heap.size w12).alloc (Nat.le_refl _) (.cells #[.int .u8 (48 + (rr : Int))] 5)
          have hrx := ((HR7.out.kept (fun b hb => he12.p.block b hb.2 (by have := HZ4.out; have := hd4.out.lt; omega))).mono (P' := fun k => k < w12.heap.size) (fun b hb => Nat.lt_of_lt_of_le hb.2 he12.p.size)).below hba
          have hlx := (HKL.out _ _ hd12).below hba
          have hbx := (HBD.out _ _ hd12).trans (hba.mono (HBD.out _ _ hd12).size)
          have cX := HEX.out (w12.alloc (.cells #[.int .u8 (48 + (rr : Int))] 5)) Al ls cl A7 l7 c7 S (hlx.mono (fun k hk => Nat.lt_of_lt_of_le hk hba.size)) HLE.out (hrx.mono (fun k hk => Nat.lt_of_lt_of_le hk hba.size)) HL7.out hbx
          rw [HNL.out, HN7Q.out] at cX
          have CX := hid cX
          have HBT := hid hbx
          clear cX hrx hlx hbx hba hd12 he12 HDX HR7 HL7 hSe
          go_wp2_with fail
          (try rw [HSE.out])
          refine CX.out.mono ?_
          rintro e w13 ⟨rfl, hb13⟩
          have HBF := hid (HBT.out.trans (hb13.mono HBT.out.size))
          clear hb13 CX
          go_wp2
          go_ret
          exact ⟨rfl, HBF.out⟩
        | true =>
          go_wp2_with fail
          refine (HODD.out _ _ HDO.out).mono ?_
          rintro e w10 ⟨lx, Ax, cx, rfl, hlx, hinx, kx, hex⟩
          have HEXD := hid hex
          have HBX := hid (HBD.out _ _ (HDO.out.trans hex))
          have HLX := hid hinx
          have HLN := hid hlx
          have HFX : Hid (RowsIn w10 (fun k => w4.heap.size ≤ k ∧ k < w10.heap.size) _ rowsT) := hid ((HF.out.kept (fun b hb => hex.p.block b hb.2 (by omega))).mono (fun b hb => ⟨hb.1, Nat.lt_of_lt_of_le hb.2 hex.p.size⟩))
          have cP := HPL.out w10 _ rowsT c6 HFX.out HFS.out.1 HFS.out.2
          rw [HRL.out] at cP
          have CP := hid cP
          obtain ⟨NX, hNX⟩ : ∃ N, lx.length = N := ⟨_, rfl⟩
          have HNX' := hid hNX
          rw [hNX]
          clear cP hlx hinx hex hNX
          go_wp2_with fail
          refine CP.out.mono ?_
          rintro e w11 ⟨⟨A7, l7, c7, rfl, hl7, hr7⟩, hb7⟩
          have HB7X := hid hb7
          have hdX := HDO.out.trans HEXD.out
          have HDX := hid (hdX.below (hb7.mono hdX.p.size) hd4.out.lt)
          have HR7 := hid hr7
          have HL7 := hid hl7
          obtain ⟨N7, hN7⟩ : ∃ N, l7.length = N := ⟨_, rfl⟩
          have HN7Q := hid hN7
          have HZ4 : Hid (w4.heap.size ≤ w10.heap.size) := hid hdX.p.size
          rw [hN7]
          clear hr7 hl7 hb7 hN7 CP hdX
          go_wp2_with fail
          refine (HNX.out w11 6 (by omega) (by omega) ⟨_, HDX.out.d⟩).mono ?_
          rintro e w12 ⟨rr, rfl, hrr6, k12, he12⟩
          have hrn6 : rr < 6 := by omega
          obtain ⟨xa, S, hcv, hadd, hSe⟩ := HSTR.out w12 rr hrn6
          have HSE := hid hSe
          have hqr : IntKind.i64.wrap (48 + (rr : Int)) = 48 + (rr : Int) := IntWalk.i64_in _ (by omega)
          have hqu : IntKind.u8.wrap (48 + (rr : Int)) = 48 + (rr : Int) := by simp [IntKind.wrap, IntKind.bits, IntKind.signed]; omega
          have hd12 := HDX.out.trans he12
          have hba := (Below.refl w12.heap.size w12).alloc (Nat.le_refl _) (.cells #[.int .u8 (48 + (rr : Int))] 5)
          have hrx := ((HR7.out.kept (fun b hb => he12.p.block b hb.2 (by have := HZ4.out; have := hd4.out.lt; omega))).mono (P' := fun k => k < w12.heap.size) (fun b hb => Nat.lt_of_lt_of_le hb.2 he12.p.size)).below hba
          have hlx := ((HLX.out.kept (fun b hb => (he12.p.block b (Nat.lt_of_lt_of_le hb.2 HB7X.out.size) (by omega)).trans (HB7X.out.block b hb.2))).mono (P' := fun k => k < w12.heap.size) (fun b hb => Nat.lt_of_lt_of_le hb.2 (Nat.le_trans HB7X.out.size he12.p.size))).below hba
          have hbx := (HBD.out _ _ hd12).trans (hba.mono (HBD.out _ _ hd12).size)
          have cX := HEX.out (w12.alloc (.cells #[.int .u8 (48 + (rr : Int))] 5)) Ax lx cx A7 l7 c7 S (hlx.mono (fun k hk => Nat.lt_of_lt_of_le hk hba.size)) HLN.out (hrx.mono (fun k hk => Nat.lt_of_lt_of_le hk hba.size)) HL7.out hbx
          rw [HNX'.out, HN7Q.out] at cX
          have CX := hid cX
          have HBT := hid hbx
          clear cX hrx hlx hbx hba hd12 he12 HDX HR7 HL7 hSe
          go_wp2_with fail
          (try rw [HSE.out])
          refine CX.out.mono ?_
          rintro e w13 ⟨rfl, hb13⟩
          have HBF := hid (HBT.out.trans (hb13.mono HBT.out.size))
          clear hb13 CX
          go_wp2
          go_ret
          exact ⟨rfl, HBF.out⟩
      | true =>
        go_wp2_with fail
        refine (HNX.out _ (n6 : Int) (by omega) (by omega) HMS7.out.dice).mono ?_
        rintro e w8 ⟨k, rfl, hk, k8, he8⟩
        have HMS8 := hid (HMS7.out.played he8)
        clear he8 HMS7
        go_wp2_with fail
        refine (HNX.out _ 4 (by omega) (by omega) HMS8.out.dice).mono ?_
        rintro e w9 ⟨j, rfl, hj, k9, he9⟩
        have HMS9 := hid (HMS8.out.played he9)
        clear he9 HMS8
        have hkn : k < L6.length := by rw [HN6.out]; omega
        obtain ⟨p, hp⟩ : ∃ p, L6[k] = p := ⟨_, rfl⟩
        have hpm : p ∈ L6 := by rw [← hp]; exact List.getElem_mem hkn
        obtain ⟨pl, pa, pcc⟩ := p
        have hp2 := (HMS9.out.s _ hpm).1
        try dsimp only at hp2
        obtain ⟨pb, poff, hpa, hpP, hpf, hpc⟩ := HMS9.out.f.at_ hpm (fun e => by rw [show pl = [] from e] at hp2; simp at hp2)
        try dsimp only at hpa hpc
        subst hpa
        have hjn : j < pl.length := by omega
        have hks := hs6.out _ hpm _ (List.getElem_mem hjn)
        try dsimp only at hks
        have hgb : gf ≠ pb := fun e => hpP.2.2 (by rw [e]; rfl)
        obtain ⟨S0, hS0⟩ : ∃ S0, ba pl[j] = S0 := ⟨_, rfl⟩
        have hS0z : S0.size ≤ 1000 := by rw [← hS0, Lib.size_eq]; simpa [ba] using hks
        have HM9 : Hid (MS w4 w.heap.size c A L (.slice (some ⟨gf, 0, none⟩) n6 c6) L6 w9.drew) := hid (HMS9.out.next (Below.refl _ w9).drew)
        have HFZ : Hid (∀ W : World, MS w4 w.heap.size c A L (.slice (some ⟨gf, 0, none⟩) n6 c6) L6 W → W.frozen? ⟨pb, poff + j, none⟩ = false ∧ W.cell? ⟨pb, poff + j, none⟩ = some (.string S0)) := hid (fun W hm => by
          obtain ⟨pb', poff', e1, _, hf, hc⟩ := hm.f.at_ hpm (fun e => by rw [show pl = [] from e] at hp2; simp at hp2)
          injection e1 with e1
          injection e1 with e1 e2
          subst e1 e2
          exact ⟨hf (poff + j), by rw [hc j _ (List.getElem?_eq_getElem hjn)]; rw [← hS0]⟩)
        have HRW := hid (fun (W : World) (hm : MS w4 w.heap.size c A L (.slice (some ⟨gf, 0, none⟩) n6 c6) L6 W) => by
          have h1 := World.ownsRow.cells hm.f.1.1 (g := gf) rfl k (rowV (pl, some ⟨pb, poff, none⟩, pcc)) (by rw [List.getElem?_map, List.getElem?_eq_getElem hkn, hp]; rfl)
          rw [Addr.add_lit, Nat.zero_add] at h1
          unfold rowV at h1
          dsimp only at h1
          rw [hp2] at h1
          exact h1)
        have hj2 : (j : Int) < 4 := hj
        have hk' := HRW.out _ HM9.out
        obtain ⟨hf9, hcj'⟩ := HFZ.out _ HM9.out
        clear HMS9 hpP hpc hks hpf
        go_upto_region 8 with fail
        go_region_with (first
          | (go_at_call 29; refine (HSP.out _ S0 hS0z HM9.out.dice).mono ?_; rintro e wS ⟨X, rfl, hX, kS, heS⟩
             have HMSS := hid (HM9.out.played heS)
             have hk' := HRW.out _ HMSS.out
             obtain ⟨hfS, hcS⟩ := HFZ.out _ HMSS.out
             clear heS))
        all_goals
          obtain ⟨L7, hL7, hms7⟩ := HMSS.out.store hpm rfl (poff + j) X hX
          have hms8 : MS w4 w.heap.size c A L (.slice (some ⟨gf, 0, none⟩) n6 c6) L7 (wS.setCell ⟨pb, poff + j, none⟩ (.string ⟨X.toArray⟩)) := hms7
          have HMS7 := hid hms8
          have HN7 : Hid (L7.length = n6) := hid (hL7.trans HN6.out)
          clear hms7 hms8 hL7 HMSS HRW HFZ HM9 hfS hcS hk' hcj' hS0 hp hpm HN6 hs6 hf9
          generalize (wS.setCell ⟨pb, poff + j, none⟩ (.string ⟨X.toArray⟩)) = w7' at HMS7 ⊢
          go_wp2_with fail
          refine (HONE.out _ 2 (by omega) (by omega) HMS7.out.dice).mono ?_
          rintro e wO ⟨rO, rfl, kO, heO⟩
          have HMO := hid (HMS7.out.played heO)
          obtain ⟨kd, hdO⟩ := HMO.out.e
          have hmt := (HMO.out.toT (by rw [HN7.out]; omega)).2
          have hf := hmt.f
          have hfs := hmt.s
          have hfn := hmt.n
          have hrl : (L7.map (·.1)).length = _ := (List.length_map _).trans HN7.out
          obtain ⟨rowsT, hrT⟩ : ∃ R, L7.map (·.1) = R := ⟨_, rfl⟩
          rw [hrT] at hf hfs hfn hrl
          have HLO' := hid (HKL.out _ _ hdO)
          have HBO := hid (HBD.out _ _ hdO)
          have HDO := hid hdO
          have HF := hid hf
          have HFS := hid (And.intro hfn hfs)
          have HRL := hid hrl
          clear heO hmt hf hfs hfn hrl hrT hdO
          cases rO with
          | false =>
            have cP := HPL.out wO _ rowsT c6 HF.out HFS.out.1 HFS.out.2
            rw [HRL.out] at cP
            have CP := hid cP
            clear cP
            go_wp2_with fail
            refine CP.out.mono ?_
            rintro e w11 ⟨⟨A7, l7, c7, rfl, hl7, hr7⟩, hb7⟩
            have hdX := HDO.out
            have HDX := hid (hdX.below (hb7.mono hdX.p.size) hd4.out.lt)
            have HR7 := hid hr7
            have HL7 := hid hl7
            obtain ⟨N7, hN7⟩ : ∃ N, l7.length = N := ⟨_, rfl⟩
            have HN7Q := hid hN7
            have HZ4 : Hid (w4.heap.size ≤ wO.heap.size) := hid hdX.p.size
            rw [hN7]
            clear hr7 hl7 hb7 hN7 CP hdX
            go_wp2_with fail
            refine (HNX.out w11 6 (by omega) (by omega) ⟨_, HDX.out.d⟩).mono ?_
            rintro e w12 ⟨rr, rfl, hrr6, k12, he12⟩
            have hrn6 : rr < 6 := by omega
            obtain ⟨xa, S, hcv, hadd, hSe⟩ := HSTR.out w12 rr hrn6
            have HSE := hid hSe
            have hqr : IntKind.i64.wrap (48 + (rr : Int)) = 48 + (rr : Int) := IntWalk.i64_in _ (by omega)
            have hqu : IntKind.u8.wrap (48 + (rr : Int)) = 48 + (rr : Int) := by simp [IntKind.wrap, IntKind.bits, IntKind.signed]; omega
            have hd12 := HDX.out.trans he12
            have hba := (Below.refl w12.heap.size w12).alloc (Nat.le_refl _) (.cells #[.int .u8 (48 + (rr : Int))] 5)
            have hrx := ((HR7.out.kept (fun b hb => he12.p.block b hb.2 (by have := HZ4.out; have := hd4.out.lt; omega))).mono (P' := fun k => k < w12.heap.size) (fun b hb => Nat.lt_of_lt_of_le hb.2 he12.p.size)).below hba
            have hlx := (HKL.out _ _ hd12).below hba
            have hbx := (HBD.out _ _ hd12).trans (hba.mono (HBD.out _ _ hd12).size)
            have cX := HEX.out (w12.alloc (.cells #[.int .u8 (48 + (rr : Int))] 5)) Al ls cl A7 l7 c7 S (hlx.mono (fun k hk => Nat.lt_of_lt_of_le hk hba.size)) HLE.out (hrx.mono (fun k hk => Nat.lt_of_lt_of_le hk hba.size)) HL7.out hbx
            rw [HNL.out, HN7Q.out] at cX
            have CX := hid cX
            have HBT := hid hbx
            clear cX hrx hlx hbx hba hd12 he12 HDX HR7 HL7 hSe
            go_wp2_with fail
            (try rw [HSE.out])
            refine CX.out.mono ?_
            rintro e w13 ⟨rfl, hb13⟩
            have HBF := hid (HBT.out.trans (hb13.mono HBT.out.size))
            clear hb13 CX
            go_wp2
            go_ret
            exact ⟨rfl, HBF.out⟩
          | true =>
            go_wp2_with fail
            refine (HODD.out _ _ HDO.out).mono ?_
            rintro e w10 ⟨lx, Ax, cx, rfl, hlx, hinx, kx, hex⟩
            have HEXD := hid hex
            have HBX := hid (HBD.out _ _ (HDO.out.trans hex))
            have HLX := hid hinx
            have HLN := hid hlx
            have HFX : Hid (RowsIn w10 (fun k => w4.heap.size ≤ k ∧ k < w10.heap.size) _ rowsT) := hid ((HF.out.kept (fun b hb => hex.p.block b hb.2 (by omega))).mono (fun b hb => ⟨hb.1, Nat.lt_of_lt_of_le hb.2 hex.p.size⟩))
            have cP := HPL.out w10 _ rowsT c6 HFX.out HFS.out.1 HFS.out.2
            rw [HRL.out] at cP
            have CP := hid cP
            obtain ⟨NX, hNX⟩ : ∃ N, lx.length = N := ⟨_, rfl⟩
            have HNX' := hid hNX
            rw [hNX]
            clear cP hlx hinx hex hNX
            go_wp2_with fail
            refine CP.out.mono ?_
            rintro e w11 ⟨⟨A7, l7, c7, rfl, hl7, hr7⟩, hb7⟩
            have HB7X := hid hb7
            have hdX := HDO.out.trans HEXD.out
            have HDX := hid (hdX.below (hb7.mono hdX.p.size) hd4.out.lt)
            have HR7 := hid hr7
            have HL7 := hid hl7
            obtain ⟨N7, hN7⟩ : ∃ N, l7.length = N := ⟨_, rfl⟩
            have HN7Q := hid hN7
            have HZ4 : Hid (w4.heap.size ≤ w10.heap.size) := hid hdX.p.size
            rw [hN7]
            clear hr7 hl7 hb7 hN7 CP hdX
            go_wp2_with fail
            refine (HNX.out w11 6 (by omega) (by omega) ⟨_, HDX.out.d⟩).mono ?_
            rintro e w12 ⟨rr, rfl, hrr6, k12, he12⟩
            have hrn6 : rr < 6 := by omega
            obtain ⟨xa, S, hcv, hadd, hSe⟩ := HSTR.out w12 rr hrn6
            have HSE := hid hSe
            have hqr : IntKind.i64.wrap (48 + (rr : Int)) = 48 + (rr : Int) := IntWalk.i64_in _ (by omega)
            have hqu : IntKind.u8.wrap (48 + (rr : Int)) = 48 + (rr : Int) := by simp [IntKind.wrap, IntKind.bits, IntKind.signed]; omega
            have hd12 := HDX.out.trans he12
            have hba := (Below.refl w12.heap.size w12).alloc (Nat.le_refl _) (.cells #[.int .u8 (48 + (rr : Int))] 5)
            have hrx := ((HR7.out.kept (fun b hb => he12.p.block b hb.2 (by have := HZ4.out; have := hd4.out.lt; omega))).mono (P' := fun k => k < w12.heap.size) (fun b hb => Nat.lt_of_lt_of_le hb.2 he12.p.size)).below hba
            have hlx := ((HLX.out.kept (fun b hb => (he12.p.block b (Nat.lt_of_lt_of_le hb.2 HB7X.out.size) (by omega)).trans (HB7X.out.block b hb.2))).mono (P' := fun k => k < w12.heap.size) (fun b hb => Nat.lt_of_lt_of_le hb.2 (Nat.le_trans HB7X.out.size he12.p.size))).below hba
            have hbx := (HBD.out _ _ hd12).trans (hba.mono (HBD.out _ _ hd12).size)
            have cX := HEX.out (w12.alloc (.cells #[.int .u8 (48 + (rr : Int))] 5)) Ax lx cx A7 l7 c7 S (hlx.mono (fun k hk => Nat.lt_of_lt_of_le hk hba.size)) HLN.out (hrx.mono (fun k hk => Nat.lt_of_lt_of_le hk hba.size)) HL7.out hbx
            rw [HNX'.out, HN7Q.out] at cX
            have CX := hid cX
            have HBT := hid hbx
            clear cX hrx hlx hbx hba hd12 he12 HDX HR7 HL7 hSe
            go_wp2_with fail
            (try rw [HSE.out])
            refine CX.out.mono ?_
            rintro e w13 ⟨rfl, hb13⟩
            have HBF := hid (HBT.out.trans (hb13.mono HBT.out.size))
            clear hb13 CX
            go_wp2
            go_ret
            exact ⟨rfl, HBF.out⟩
    · have h0z : ¬ (0 : Int) < (n6 : Int) := by omega
      obtain rfl : n6 = 0 := by omega
      go_wp2_with fail
      refine (HONE.out _ 2 (by omega) (by omega) HMS.out.dice).mono ?_
      rintro e wO ⟨rO, rfl, kO, heO⟩
      have HMO := hid (HMS.out.played heO)
      obtain ⟨kd, hdO⟩ := HMO.out.e
      have hmt := (HMO.out.toT (by rw [HN6.out]; omega)).2
      have hf := hmt.f
      have hfs := hmt.s
      have hfn := hmt.n
      have hrl : (L6.map (·.1)).length = _ := (List.length_map _).trans HN6.out
      obtain ⟨rowsT, hrT⟩ : ∃ R, L6.map (·.1) = R := ⟨_, rfl⟩
      rw [hrT] at hf hfs hfn hrl
      have HLO' := hid (HKL.out _ _ hdO)
      have HBO := hid (HBD.out _ _ hdO)
      have HDO := hid hdO
      have HF := hid hf
      have HFS := hid (And.intro hfn hfs)
      have HRL := hid hrl
      clear heO hmt hf hfs hfn hrl hrT hdO
      cases rO with
      | false =>
        have cP := HPL.out wO _ rowsT c6 HF.out HFS.out.1 HFS.out.2
        rw [HRL.out] at cP
        have CP := hid cP
        clear cP
        go_wp2_with fail
        refine CP.out.mono ?_
        rintro e w11 ⟨⟨A7, l7, c7, rfl, hl7, hr7⟩, hb7⟩
        have hdX := HDO.out
        have HDX := hid (hdX.below (hb7.mono hdX.p.size) hd4.out.lt)
        have HR7 := hid hr7
        have HL7 := hid hl7
        obtain ⟨N7, hN7⟩ : ∃ N, l7.length = N := ⟨_, rfl⟩
        have HN7Q := hid hN7
        have HZ4 : Hid (w4.heap.size ≤ wO.heap.size) := hid hdX.p.size
        rw [hN7]
        clear hr7 hl7 hb7 hN7 CP hdX
        go_wp2_with fail
        refine (HNX.out w11 6 (by omega) (by omega) ⟨_, HDX.out.d⟩).mono ?_
        rintro e w12 ⟨rr, rfl, hrr6, k12, he12⟩
        have hrn6 : rr < 6 := by omega
        obtain ⟨xa, S, hcv, hadd, hSe⟩ := HSTR.out w12 rr hrn6
        have HSE := hid hSe
        have hqr : IntKind.i64.wrap (48 + (rr : Int)) = 48 + (rr : Int) := IntWalk.i64_in _ (by omega)
        have hqu : IntKind.u8.wrap (48 + (rr : Int)) = 48 + (rr : Int) := by simp [IntKind.wrap, IntKind.bits, IntKind.signed]; omega
        have hd12 := HDX.out.trans he12
        have hba := (Below.refl w12.heap.size w12).alloc (Nat.le_refl _) (.cells #[.int .u8 (48 + (rr : Int))] 5)
        have hrx := ((HR7.out.kept (fun b hb => he12.p.block b hb.2 (by have := HZ4.out; have := hd4.out.lt; omega))).mono (P' := fun k => k < w12.heap.size) (fun b hb => Nat.lt_of_lt_of_le hb.2 he12.p.size)).below hba
        have hlx := (HKL.out _ _ hd12).below hba
        have hbx := (HBD.out _ _ hd12).trans (hba.mono (HBD.out _ _ hd12).size)
        have cX := HEX.out (w12.alloc (.cells #[.int .u8 (48 + (rr : Int))] 5)) Al ls cl A7 l7 c7 S (hlx.mono (fun k hk => Nat.lt_of_lt_of_le hk hba.size)) HLE.out (hrx.mono (fun k hk => Nat.lt_of_lt_of_le hk hba.size)) HL7.out hbx
        rw [HNL.out, HN7Q.out] at cX
        have CX := hid cX
        have HBT := hid hbx
        clear cX hrx hlx hbx hba hd12 he12 HDX HR7 HL7 hSe
        go_wp2_with fail
        (try rw [HSE.out])
        refine CX.out.mono ?_
        rintro e w13 ⟨rfl, hb13⟩
        have HBF := hid (HBT.out.trans (hb13.mono HBT.out.size))
        clear hb13 CX
        go_wp2
        go_ret
        exact ⟨rfl, HBF.out⟩
      | true =>
        go_wp2_with fail
        refine (HODD.out _ _ HDO.out).mono ?_
        rintro e w10 ⟨lx, Ax, cx, rfl, hlx, hinx, kx, hex⟩
        have HEXD := hid hex
        have HBX := hid (HBD.out _ _ (HDO.out.trans hex))
        have HLX := hid hinx
        have HLN := hid hlx
        have HFX : Hid (RowsIn w10 (fun k => w4.heap.size ≤ k ∧ k < w10.heap.size) _ rowsT) := hid ((HF.out.kept (fun b hb => hex.p.block b hb.2 (by omega))).mono (fun b hb => ⟨hb.1, Nat.lt_of_lt_of_le hb.2 hex.p.size⟩))
        have cP := HPL.out w10 _ rowsT c6 HFX.out HFS.out.1 HFS.out.2
        rw [HRL.out] at cP
        have CP := hid cP
        obtain ⟨NX, hNX⟩ : ∃ N, lx.length = N := ⟨_, rfl⟩
        have HNX' := hid hNX
        rw [hNX]
        clear cP hlx hinx hex hNX
        go_wp2_with fail
        refine CP.out.mono ?_
        rintro e w11 ⟨⟨A7, l7, c7, rfl, hl7, hr7⟩, hb7⟩
        have HB7X := hid hb7
        have hdX := HDO.out.trans HEXD.out
        have HDX := hid (hdX.below (hb7.mono hdX.p.size) hd4.out.lt)
        have HR7 := hid hr7
        have HL7 := hid hl7
        obtain ⟨N7, hN7⟩ : ∃ N, l7.length = N := ⟨_, rfl⟩
        have HN7Q := hid hN7
        have HZ4 : Hid (w4.heap.size ≤ w10.heap.size) := hid hdX.p.size
        rw [hN7]
        clear hr7 hl7 hb7 hN7 CP hdX
        go_wp2_with fail
        refine (HNX.out w11 6 (by omega) (by omega) ⟨_, HDX.out.d⟩).mono ?_
        rintro e w12 ⟨rr, rfl, hrr6, k12, he12⟩
        have hrn6 : rr < 6 := by omega
        obtain ⟨xa, S, hcv, hadd, hSe⟩ := HSTR.out w12 rr hrn6
        have HSE := hid hSe
        have hqr : IntKind.i64.wrap (48 + (rr : Int)) = 48 + (rr : Int) := IntWalk.i64_in _ (by omega)
        have hqu : IntKind.u8.wrap (48 + (rr : Int)) = 48 + (rr : Int) := by simp [IntKind.wrap, IntKind.bits, IntKind.signed]; omega
        have hd12 := HDX.out.trans he12
        have hba := (Below.refl w12.heap.size w12).alloc (Nat.le_refl _) (.cells #[.int .u8 (48 + (rr : Int))] 5)
        have hrx := ((HR7.out.kept (fun b hb => he12.p.block b hb.2 (by have := HZ4.out; have := hd4.out.lt; omega))).mono (P' := fun k => k < w12.heap.size) (fun b hb => Nat.lt_of_lt_of_le hb.2 he12.p.size)).below hba
        have hlx := ((HLX.out.kept (fun b hb => (he12.p.block b (Nat.lt_of_lt_of_le hb.2 HB7X.out.size) (by omega)).trans (HB7X.out.block b hb.2))).mono (P' := fun k => k < w12.heap.size) (fun b hb => Nat.lt_of_lt_of_le hb.2 (Nat.le_trans HB7X.out.size he12.p.size))).below hba
        have hbx := (HBD.out _ _ hd12).trans (hba.mono (HBD.out _ _ hd12).size)
        have cX := HEX.out (w12.alloc (.cells #[.int .u8 (48 + (rr : Int))] 5)) Ax lx cx A7 l7 c7 S (hlx.mono (fun k hk => Nat.lt_of_lt_of_le hk hba.size)) HLN.out (hrx.mono (fun k hk => Nat.lt_of_lt_of_le hk hba.size)) HL7.out hbx
        rw [HNX'.out, HN7Q.out] at cX
        have CX := hid cX
        have HBT := hid hbx
        clear cX hrx hlx hbx hba hd12 he12 HDX HR7 HL7 hSe
        go_wp2_with fail
        (try rw [HSE.out])
        refine CX.out.mono ?_
        rintro e w13 ⟨rfl, hb13⟩
        have HBF := hid (HBT.out.trans (hb13.mono HBT.out.size))
        clear hb13 CX
        go_wp2
        go_ret
        exact ⟨rfl, HBF.out⟩
  · rw [decide_eq_false hl] at cL
    clear h
    go_enter Tryz.func4, Tryz.ntmps4
    go_wp2_with fail
    refine cL.mono ?_
    rintro e w' ⟨rfl, rfl⟩
    go_wp2_with fail
    refine (cK.out _ (Below.refl _ _)).mono ?_
    rintro e w2 ⟨rfl, hb2⟩
    have HB2 := hid hb2
    clear hb2
    go_wp2
    go_ret
    exact ⟨rfl, HB2.out⟩
end Go.Proofs.YtlgmanbilaminaaGreatDoor.S12
set_option maxRecDepth 100000
namespace Go.Proofs.YtlgmanbilaminaaGreatDoor.S12
open Go Go.Proofs Go.ChangeShapes Go.WideShapes Go.ChangeAt Go.RowKit Go.Proofs.YtlgmanbilaminaaGreatDoor
theorem cells3 : Tryz.prog.cellsOf 3 = 1 := by kernel_rfl
section
variable {H : Type} {enc : TypeId × Value → H}
theorem open_intcells {W : World} {fuel : Nat} {v : Value} {x : DataW H × List MemPlace} (hf : DataW.trod enc Tryz.prog W 0 (fun _ => true) true fuel 44 [v] = some x) :
    ∃ A L c, v = .slice A (List.length L) c ∧ IntsIn W W.heap.size A L ∧ L.length ≤ 9223372036854775807 := by
  rcases open_ints Tryz.underlying44 Tryz.underlying3 cells3 hf with ⟨hcs, _⟩ | ⟨a, len, cap, zs, hcs, _, hl, hm, hz, _, hcell, hwz⟩
  · simp at hcs
    subst hcs
    exact ⟨none, [], 0, rfl, .inl rfl, by simp⟩
  · simp at hcs
    subst hcs
    have hz' : zs.length = cap := by simpa using hz
    refine ⟨some a, zs.take len, cap, ?_, ?_, ?_⟩
    · rw [List.length_take, Nat.min_eq_left (by omega)]
    · rcases Nat.eq_zero_or_pos len with h0 | h0
      · subst h0; exact .inl (by simp)
      · obtain ⟨b, off, rfl, hc⟩ := ints_at hcell (by omega)
        refine .inr ⟨b, off, rfl, World.block_lt_of_cell? W _ (hc 0 (by omega)), fun j u hu => ?_⟩
        have hj : j < len := by
          have := (List.getElem?_eq_some_iff.1 hu).1
          simp at this
          omega
        rw [hc j (by omega)]
        rw [List.getElem?_take, if_pos hj, List.getElem?_eq_getElem (by omega)] at hu
        simp only [Option.some.injEq] at hu
        subst hu
        have e : zs.getD j 0 = zs[j] := by simp [List.getD, List.getElem?_eq_getElem (show j < zs.length by omega)]
        rw [e]
    · unfold maxLen at hm
      rw [List.length_take]
      omega
theorem open_intlist {W : World} {base : Nat} {v : Value} {d : DataW H} {p : List MemPlace} (hv : Value.okWide Tryz.prog W .any base 44 v) (h : DataW.Trod enc Tryz.prog W 0 (fun _ => true) true 44 v d p) :
    ∃ A L c, v = .slice A (List.length L) c ∧ IntsIn W W.heap.size A L ∧ L.length ≤ 9223372036854775807 := by
  obtain ⟨a0, len, cap, rfl⟩ := okWide_slice Tryz.underlying44 hv
  obtain ⟨fuel, hf⟩ := h
  exact open_intcells hf
end
end Go.Proofs.YtlgmanbilaminaaGreatDoor.S12
set_option maxRecDepth 100000
namespace Go.Proofs.YtlgmanbilaminaaGreatDoor
open Go Go.Proofs Go.Proofs.YtlgmanbilaminaaGreatDoor.S12 Go.ChangeShapes Go.WideShapes Go.ChangeAt Go.RowKit
open Go.ChangeMaps (open_string)
theorem qmade_contract (H : Type) (enc : TypeId × Value → H) (W : World) (base : Nat) (args : Array Value) (ds gs : List (DataW H)) (before : List MemPlace)
    (hval : ∀ (j : Nat) t v, Tryz.f4.params[j]? = some t → args[j]? = some v → Value.okWide Tryz.prog W .any base t v)
    (hW : DataW.Whole enc Tryz.prog Tryz.f4.params.toList Rows.requestsMadeSpec.vars false W args.toList ds gs before) (hE : S3.Env W) (hP : Features W)
    (hsz : (DataW.weightsEach Tryz.prog (Tryz.f4.params.toList ++ (OpenSpec.ofChange Rows.requestsMadeSpec).bare.plain.varTypes Tryz.prog) (ds ++ gs)).all (· ≤ reachBytes) = true) :
    Calls Tryz.prog 4 args W fun e W' => ∃ v, e = .returned v ∧ Rows.requestsMadeSpec.post enc Tryz.prog Tryz.f4 false true false false W args v W' := by
  have hW' := hW
  obtain ⟨p, q, hA0, hV, rfl, hfz, hnd⟩ := hW
  have hA : DataW.TrodAll enc Tryz.prog W 0 (fun _ => true) true Tryz.f4.params.toList args.toList ds p := hA0
  rw [Tryz.params4] at hA hval hsz
  obtain ⟨v0, vs0, d0, ds0, p0, q0, hargs, rfl, rfl, h0, r0⟩ := trodAll_cons hA
  obtain ⟨rfl, rfl, rfl⟩ := trodAll_nil r0
  obtain rfl : args = #[v0] := by cases args; simp_all
  obtain ⟨rfl, rfl⟩ := trodVars_none hV
  obtain ⟨A, L, c, rfl, hI, hlen⟩ := S12.open_intlist (hval 0 44 v0 rfl rfl) h0
  obtain ⟨FB, fo, fc, hf, hFB⟩ := hP
  refine (S12.made_any A L c FB fo fc hlen W hE hI hf hFB).mono fun e W' ⟨he, hbw⟩ => ?_
  subst he
  exact ⟨_, rfl, law_post laidOut (fun t ht => by rw [Tryz.params4] at ht; obtain rfl : t = 44 := (by simpa using ht); exact rowInts) rfl Tryz.underlying4 rfl rfl hW' hbw⟩
theorem qmade_laid (os : Os) : laidMet Tryz.prog Rows.requestsMadeRow.laid ((laidWorld os).forCall (fun _ _ => 0) ⟨#[], #[.slice none 0 0], []⟩).memory :=
  laidMet_of_run' 8 (by kernel_rfl) (by kernel_rfl)
theorem qmade_reads (os : Os) {H : Type} (enc : TypeId × Value → H) : ∃ places, DataW.whole enc Tryz.prog ((laidWorld os).forCall (fun _ _ => 0) ⟨#[], #[.slice none 0 0], []⟩).memory Tryz.f4.params.toList Rows.requestsMadeSpec.vars false #[Value.slice none 0 0].toList 8 = some ([.nil], [], places) :=
  ⟨[], by kernel_rfl⟩
theorem qmade_lifted (os : Os) (started : os.Started) (H : Type) (enc : TypeId × Value → H) (F : Stop.Interp) :
    ReturnsInHanded {} Tryz.checked os 4 .any ((OpenSpec.ofChange Rows.requestsMadeSpec).preRow enc Tryz.prog Tryz.f4 Rows.requestsMadeRow.domain false Rows.requestsMadeRow.laid) (((OpenSpec.ofChange Rows.requestsMadeSpec).at F).post enc Tryz.prog Tryz.f4 false true false false) := by
  obtain ⟨places, hx⟩ := qmade_reads os enc
  refine returnsInHanded_of_row (C := Tryz.checked) (s := OpenSpec.ofChange Rows.requestsMadeSpec) own started (by kernel_rfl) Tryz.func4
    (witness_row_atRef (enc := enc) (C := Tryz.checked) false (laidWorld os) #[.slice none 0 0] rfl (by kernel_rfl) (by kernel_rfl) (by kernel_rfl)
      (OpenSpec.preRow_of_cond 8 hx (by kernel_rfl) (fun k hk => by cases hk) (by kernel_rfl) (qmade_laid os))) ?_
  intro W base args ds gs before hval hW _ _ hsz hL hsh _
  exact qmade_contract H enc W base args ds gs before hval hW (env3_ofL hL (.tail _ (.tail _ (.head _))) hsh (errSyntax_ofL hL.tail.tail.tail.tail.tail.tail)) (features_ofL hL (.tail _ (.tail _ (.tail _ (.head _))))) hsz
theorem qmade_inPlace : Tryz.pinned.checked.prog.inPlace 4 = Rows.requestsMadeRow.inPlace := by kernel_rfl
theorem qmade_unfollowed : Tryz.pinned.checked.prog.unfollowed 4 = Rows.requestsMadeRow.unfollowed := by kernel_rfl
theorem qmade_recurses : Tryz.pinned.checked.prog.recurses 4 = Rows.requestsMadeRow.recurses := by kernel_rfl
theorem qmade_named : Tryz.pinned.checked.prog.varsNamed 4 = Rows.requestsMadeRow.named := by kernel_rfl
set_option maxHeartbeats 4000000 in
theorem qmade_closed : joinedFacts Tryz.pinned.checked.prog 4 Tryz.f4 (OpenSpec.ofChange Rows.requestsMadeSpec).bare Rows.requestsMadeRow = true := by
  unfold joinedFacts
  rw [qmade_inPlace, qmade_unfollowed, qmade_recurses, qmade_named]
  kernel_rfl
end Go.Proofs.YtlgmanbilaminaaGreatDoor
