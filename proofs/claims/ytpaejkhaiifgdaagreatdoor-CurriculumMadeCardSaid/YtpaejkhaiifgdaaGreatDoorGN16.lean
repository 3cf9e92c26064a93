/-
  The walk of CurriculumGrows. Conditions: the numbers lie in memory as a slice of ints; the variables hold what their text lays; the string is not too long.
-/
import Derived.Test.YtpaejkhaiifgdaaGreatDoorGN01
import Derived.Test.YtpaejkhaiifgdaaGreatDoorGN02
import Derived.Test.YtpaejkhaiifgdaaGreatDoorGN03
import Derived.Test.YtpaejkhaiifgdaaGreatDoorGN04
import Derived.Test.YtpaejkhaiifgdaaGreatDoorGN05
import Derived.Test.YtpaejkhaiifgdaaGreatDoorGN06
import Derived.Test.YtpaejkhaiifgdaaGreatDoorGN07
import Derived.Test.YtpaejkhaiifgdaaGreatDoorGN08
import Derived.Test.YtpaejkhaiifgdaaGreatDoorGN09
import Derived.Test.YtpaejkhaiifgdaaGreatDoorGN10
import Derived.Test.YtpaejkhaiifgdaaGreatDoorGN11
import Derived.Test.YtpaejkhaiifgdaaGreatDoorGN12
import Derived.Test.YtpaejkhaiifgdaaGreatDoorGN13
import Derived.Test.YtpaejkhaiifgdaaGreatDoorGN14
import Derived.Test.YtpaejkhaiifgdaaGreatDoorGN15
import Derived.Test.YtpaejkhaiifgdaaGreatDoorProg
import Derived.WalkKit
import Derived.WalkSpells
import Derived.WalkLawsBesides
import Derived.Lib.Hide
import Derived.Deep.QuietTactic
import Derived.BigQuiet
import Derived.Laws.Rows
import Derived.OwnWalk
import Derived.Lib.BufferWrite
import Derived.Lib.UnsafeStr
import Derived.Laws.IdiomStrings
import Derived.Laws.BytesArg
import Derived.Laws.BytesString
import Derived.Laws.OwnMore
import Derived.Lib.IndexLaws
import Derived.Lib.ItoaNum
import Derived.Lib.Atoi
import Derived.Lib.Bytealg
import Derived.RangeFuncNested
import Derived.RangeFuncBound
import Derived.RangeFuncCalls
import Derived.RangeFuncLeaves
import Derived.Shelf.Abstract
import Derived.Shelf.RegionOpen
import Derived.OwnWalkIn
import Derived.Lib.SlTrimSet
import Derived.Shelf.Strings.Builder1
import Derived.Shelf.Strings.Builder2
import Derived.Shelf.Strings.OnBuilder
import Derived.Shelf.Strings.Trim
import Derived.Shelf.Small.Utf8
import Derived.Shelf.Small.Strs
import Derived.Shelf.Strings.BuilderF
import Derived.Shelf.Strings.BuilderK
import Derived.Shelf.Strings.Builder2Cap
import Derived.Shelf.Strconv.Atoi
import Derived.Shelf.Strconv.Itoa0
import Derived.Shelf.Strconv.Itoa1
import Derived.Shelf.LaysM
import Derived.Shelf.Strconv.Itoa2
import Derived.Shelf.Strconv.Itoa3
import Derived.Shelf.Strconv.AtoiErrFast
import Derived.Shelf.Strconv.ParseIntEmpty
import Derived.Shelf.Strconv.AtoiFail
import Derived.Shelf.Strconv.Clone
import Derived.Shelf.Strconv.SyntaxError
import Derived.Shelf.LaysC
import Derived.Shelf.Strconv.ToError
import Derived.Shelf.Strconv.AtoiErr
import Derived.Shelf.Strings.Search1
import Derived.Shelf.Strings.Search2
import Derived.Shelf.Strings.Search3
import Derived.Shelf.Strings.Cut
import Derived.Shelf.Strings.Shaped
import Derived.Shelf.Strings.Prefix
import Derived.Shelf.Strings.Runes
import Derived.Shelf.Strings.AsciiSet
import Derived.Shelf.Bits.Mul64
import Derived.Shelf.Strings.Repeat
import Derived.Shelf.Unicode.DecodeSlow
import Derived.Shelf.Strings.BuilderCap
import Derived.Shelf.Slices.Turned
import Derived.Shelf.Strings.SlTrimAscii
import Derived.Lib.AtoiErrMem
import Derived.Handy
import Derived.Laws.ResultCell
import Derived.RegionTactic
import Derived.Lib.Repeat
import Derived.Deep.RegionHeld3
import Derived.Lib.SlicesS
import Derived.TacticsInMore
import Derived.LoopNIn
import Derived.LoopIn
import Derived.Maps.OwnSet
import Derived.Maps.Range
import Derived.Deep.RegionLaw
import Derived.Deep.DeepCutAuto
import Derived.Lib.Join
import Derived.Laws.Concat
import Derived.Deep.CutBlock
import Derived.Laws.AppendOwn
import Derived.Laws.Tables
import Derived.Maps.AppendAt
import Derived.Stop.BytesEq
import Derived.Deep.AppendLies
import Derived.RangeFuncBox
import Derived.IntWalk
import Derived.Laws.BitsAllLaws
import Derived.Laws.BitsLemmas
import Derived.OneCell
import Derived.Laws.CopyOwn
import Derived.OrdersHeld
import Derived.Lib.MinMax
import Derived.Deep.WholeRow
import Derived.Lib.QuietBelow
set_option linter.unusedVariables false
namespace Go.Proofs.YtpaejkhaiifgdaaGreatDoor.S11
open Go Go.Proofs Go.RowKit Go.Lib Go.Proofs.YtpaejkhaiifgdaaGreatDoor Go.Proofs.YtpaejkhaiifgdaaGreatDoor.S10

/-- What stands behind the making. -/
structure KGR (w0 : World) (M : Nat) (Ac : Option Addr) (cls : List ClassD) (Al : Option Addr) (ls : List CurrD) (w : World) : Prop where
  c : ClassesIn w (fun k => k < M) Ac cls
  l : CurrsIn w (fun k => k < M) Al ls
  z : M ≤ w.heap.size
  b : Below w0.heap.size w0 w
theorem KGR.next {w0 w w' : World} {M : Nat} {Ac Al : Option Addr} {cls : List ClassD} {ls : List CurrD} (h : KGR w0 M Ac cls Al ls w) (k : Below w.heap.size w w') : KGR w0 M Ac cls Al ls w' :=
  ⟨h.c.kept (fun j hj => k.block j (Nat.lt_of_lt_of_le hj h.z)), h.l.kept (fun j hj => k.block j (Nat.lt_of_lt_of_le hj h.z)), Nat.le_trans h.z k.size, h.b.trans (k.mono h.b.size)⟩
theorem KGR.low {w0 w w' : World} {M C : Nat} {Ac Al : Option Addr} {cls : List ClassD} {ls : List CurrD} (h : KGR w0 M Ac cls Al ls w) (k : Below C w w') (hM : M ≤ C) (hw : w0.heap.size ≤ C) : KGR w0 M Ac cls Al ls w' :=
  ⟨h.c.kept (fun j hj => k.block j (Nat.lt_of_lt_of_le hj hM)), h.l.kept (fun j hj => k.block j (Nat.lt_of_lt_of_le hj hM)), Nat.le_trans h.z k.size, h.b.trans (k.mono hw)⟩
theorem strVals_one : ∀ (l : List Str), ∀ u ∈ S3.strVals l, u.oneCell' = true := by
  intro l u hu
  obtain ⟨s, _, rfl⟩ := List.mem_map.1 hu
  rfl
/-- And both lists of pairs. -/
structure KJ (w0 : World) (M : Nat) (Ac : Option Addr) (cls : List ClassD) (Al : Option Addr) (ls : List CurrD) (Ba Bb : Nat) (va vb : Value) (pa pb : List StartD) (w : World) : Prop where
  k : KGR w0 M Ac cls Al ls w
  a : PairRow w Ba va pa
  b : PairRow w Bb vb pb
theorem KJ.next {w0 w w' : World} {M : Nat} {Ac Al : Option Addr} {cls : List ClassD} {ls : List CurrD} {Ba Bb : Nat} {va vb : Value} {pa pb : List StartD} (h : KJ w0 M Ac cls Al ls Ba Bb va vb pa pb w) (k : Below w.heap.size w w') : KJ w0 M Ac cls Al ls Ba Bb va vb pa pb w' :=
  ⟨h.k.next k, row_under h.a k, row_under h.b k⟩
set_option maxHeartbeats 32000000 in
set_option maxRecDepth 100000 in
theorem grows_any (A : Option Addr) (L : List Int) (c FB fo fc : Nat) (more : ByteArray) (hlen : L.length ≤ 9223372036854775807) (w : World) (hE : S3.Env w) (h : IntsIn w w.heap.size A L)
    (hf : FeatAt w FB fo fc) (hFB : FB < w.heap.size) :
    Calls Tryz.prog 6 #[.slice A L.length c, .string more] w fun e w' => e = .returned (.bool true) ∧ Below w.heap.size w w' := by
  obtain ⟨i9, hi9, hz9, hsi9, hby9⟩ := info_parts S3.infoStr
  have cL := light_any A L.length c w
  have hGf : 0 < w.heap.size := World.block_lt_of_cell? w _ hf.c0
  have HFT := hid (fun w' (hb : Below w.heap.size w w') => hf.kept (w' := w') (hb.block _ hGf) (hb.block _ hFB))
  have cK := hid (fun w' (hb : Below w.heap.size w w') => awake_any w' (hE.below hb))
  have cK' := cK.out
  unfold Says at cK'
  have cK := hid cK'
  clear cK' hf hE
  by_cases hl : L.length ≤ 400
  · rw [decide_eq_true hl] at cL
    have cR := hid (fun w h => roll_any A L c hl w h)
    have HI := hid h
    clear h
    go_enter Tryz.func6, Tryz.ntmps6
    go_wp2_with fail
    refine cL.mono ?_
    rintro e w' ⟨rfl, rfl⟩
    go_wp2_with fail
    refine (cR.out _ HI.out).mono ?_
    rintro e w1 ⟨rfl, hd1, hb1⟩
    have hgl := hd1.lt
    have HB : Hid (∀ W k, DE w1 w.heap.size c A L k W → Below w.heap.size w W) := hid (fun W k he => hb1.trans (he.toBelow (Nat.le_of_lt hgl) (Nat.le_refl _)))
    have cG := hid (grid_any w.heap.size c 0 A L w1 hd1)
    clear hd1 hb1 cL cR HI
    go_wp2_with fail
    refine cG.out.mono ?_
    rintro e w2 ⟨d, s, b, m, k2, rfl, hmg, he2⟩
    have g1 : 1 ≤ d ∧ d ≤ 5 := hmg.1
    have g2 : 2 ≤ s ∧ s ≤ 8 := hmg.2.1
    have CL : Hid (Calls Tryz.prog 22 #[.pointer (some ⟨w.heap.size, 0, none⟩), .agg #[.int .i64 d, .int .i64 s, .int .i64 b, .int .i64 m], .int .i64 1, .slice none 0 0, .int .i64 6] w2 fun e w' => ∃ (ls : List ClassD) (Al : Option Addr) (cl k : Nat), e = .returned (.slice Al ls.length cl) ∧ ls.length ≤ 6 ∧ (ls.length ≤ cl ∧ cl ≤ 9223372036854775807) ∧ ClassesOk d s 1 [] ls ∧ ClassesIn w' (fun k => w.heap.size < k ∧ k < w'.heap.size) Al ls ∧ DE w1 w.heap.size c A L k w') := hid (by
      refine (classes_any w.heap.size c k2 FB fo fc A L d s b m 1 6 (by omega) (by omega) (by omega) (by omega) (by omega) (by omega) (by omega) none [] 0 (by simp) w2 he2.d (.inl rfl) (HFT.out _ (HB.out _ _ he2)) hGf hFB).mono ?_
      rintro e w' ⟨ls, v, k', rfl, hl6, hok, hrow, he⟩
      obtain ⟨A5, c5, rfl, h1, h2, hin5⟩ := hrow.classesIn
      have hz2 : w.heap.size < w2.heap.size := Nat.lt_of_lt_of_le hgl he2.p.size
      exact ⟨ls, A5, c5, k', rfl, hl6, ⟨h1, h2⟩, hok, hin5.mono (fun k hk => by rcases hk with h | h; exact ⟨by omega, h.2⟩; exact ⟨by omega, h.2⟩), he2.trans he⟩)
    clear he2 cG hmg
    go_wp2_with fail
    refine CL.out.mono ?_
    rintro e w3 ⟨cls, Ac, cc, k3, rfl, hl6, hcc, hok, hcin, he3⟩
    have hCU := curricula_any w.heap.size c k3 A L Ac cls cc (by omega) w3 he3.d (hcin.mono (fun k hk => hk.2))
    have HCU := hid hCU
    have HCI := hid hcin
    have HE3 := hid he3
    have HL6 := hid (And.intro hl6 hcc)
    obtain ⟨NC, hNC⟩ : ∃ F, cls.length = F := ⟨_, rfl⟩
    have HNC := hid hNC
    rw [hNC] at HCU ⊢
    clear hCU hcin he3 hl6 hok CL hNC hcc g1 g2 HFT
    go_wp2_with fail
    refine HCU.out.mono ?_
    rintro e w4 ⟨ls, v, k4, rfl, hlo, hlr, he4⟩
    obtain ⟨Al, cl, rfl, _, _, hlin⟩ := hlr.currsIn
    have hkr : KGR w w4.heap.size Ac cls Al ls w4 :=
      ⟨(HCI.out.kept (fun k hk => he4.p.block k hk.2 (by omega))).mono (fun k hk => Nat.lt_of_lt_of_le hk.2 he4.p.size), hlin.mono (fun k hk => by rcases hk with h | h; exact h.2; exact h.2), Nat.le_refl _, HB.out _ _ (HE3.out.trans he4)⟩
    have HKR := hid hkr
    have HLO := hid hlo
    obtain ⟨M, hM⟩ : ∃ k, w4.heap.size = k := ⟨_, rfl⟩
    rw [hM] at HKR
    obtain ⟨NL, hNL⟩ : ∃ k, ls.length = k := ⟨_, rfl⟩
    have HNL := hid hNL
    have hNL3 : NL ≤ 3 := by rw [← hNL]; exact hlo.len
    rw [hNL]
    clear hkr hlo hlr he4 hlin hM hNL HCU HE3 HCI HB hgl
    go_wp2
    go_loopw [8] (fun iv wr => ∃ i : Nat, iv = .int .i64 (i : Int) ∧ i ≤ NL ∧ Hid (KGR w M Ac cls Al ls wr)) (fun iv _ => NL - (RowKit.intOf iv).toNat)
    case atStart => exact ⟨0, rfl, Nat.zero_le _, HKR⟩
    case round =>
      clear HKR
      obtain ⟨i, rfl, hi, hK⟩ := hrel
      by_cases hlt : i < NL
      · have hltz : (i : Int) < (NL : Int) := by omega
        have dk : decide (NL ≤ i) = false := decide_eq_false (by omega)
        have hil : i < ls.length := by rw [HNL.out]; exact hlt
        obtain ⟨fb, fo, q, rfl, hfb, hri, y0, y1⟩ := hK.out.l.at_ hil
        have hox := HLO.out.at_ i _ (List.getElem?_eq_getElem hil)
        obtain ⟨⟨code, cs⟩, hx⟩ : ∃ x, ls[i] = x := ⟨_, rfl⟩
        rw [hx] at hri y0 y1 hox
        dsimp only at y0 y1 hox
        have cP1 := fun W (hW : KGR w M Ac cls (some ⟨fb, fo, none⟩) ls W) (hx : CurrIn W (fun k => k < M) (code, cs) q) => pairs_any (code, cs) q Ac cls cc (by have := HL6.out.1; omega) HL6.out.2.1 HL6.out.2.2 W (hx.mono (fun k hk => Nat.lt_of_lt_of_le hk hW.z)) (hW.c.mono (fun k hk => Nat.lt_of_lt_of_le hk hW.z))
        unfold PairOut currV at cP1
        dsimp only at cP1
        rw [HNC.out] at cP1
        have hb1 := (Below.refl wr.heap.size wr).alloc (Nat.le_refl _) (.cells #[.string (ba code), .slice q.1 cs.length q.2] 41)
        have hx1 := Box2.new wr (.string (ba code)) (.slice q.1 cs.length q.2)
        have hK1 := hK.out.next hb1
        have hri1 := hri.kept (w' := wr.alloc (.cells #[.string (ba code), .slice q.1 cs.length q.2] 41)) (fun k hk => hb1.block k (Nat.lt_of_lt_of_le hk hK.out.z))
        have cP2 := cP1 _ hK1 hri1
        obtain ⟨pa, hpa⟩ : ∃ P, pairsM cs cls = P := ⟨_, rfl⟩
        have hpl := pairsM_len cs cls (by have := HL6.out.1; omega)
        rw [hpa] at cP2 hpl
        obtain ⟨X1, hX1⟩ : ∃ X, ba code = X := ⟨_, rfl⟩
        obtain ⟨CN, hCN⟩ : ∃ F, cs.length = F := ⟨_, rfl⟩
        rw [hX1] at y0
        rw [hCN] at y1
        rw [hX1, hCN] at cP2 hx1 hK1 hri1
        have CP2 := hid cP2
        have HPA := hid hpa
        have HPL := hid hpl
        have HX1 := hid hx1
        have HK1 := hid hK1
        have HRI := hid hri1
        have HOX := hid hox
        have HCN := hid hCN
        have HXE := hid hX1
        have HWR : Hid (M ≤ wr.heap.size ∧ w.heap.size ≤ wr.heap.size) := hid ⟨hK.out.z, hK.out.b.size⟩
        clear hx hri hox cP1 hb1 hx1 hK1 hri1 cP2 hpa hpl hX1 hCN hfb hK
        go_wp2_with fail
        generalize wr.alloc (.cells #[.string X1, .slice q.1 CN q.2] 41) = w5 at CP2 HX1 HK1 HRI ⊢
        obtain ⟨BX, hBX⟩ : ∃ k, wr.heap.size = k := ⟨_, rfl⟩
        have HBX : Hid (M ≤ BX ∧ w.heap.size ≤ BX) := hid (by rw [← hBX]; exact HWR.out)
        rw [hBX] at HX1 ⊢
        have HB5 : Hid (BX < w5.heap.size) := hid HX1.out.lt
        clear hBX HWR
        obtain ⟨x0, x1⟩ := HX1.out.cells
        go_wp2_with fail
        refine CP2.out.mono ?_
        rintro e w6 ⟨⟨va, rfl, hra⟩, hb6⟩
        obtain ⟨Aa, ca, rfl⟩ := S3.row_slice hra
        have HX2 := hid (HX1.out.next hb6)
        have HK2 := hid (HK1.out.next hb6)
        have HRI2 := hid (HRI.out.kept (w' := w6) (fun k hk => hb6.block k (Nat.lt_of_lt_of_le hk HK1.out.z)))
        have HRA := hid hra
        clear hra hb6 x0 x1 CP2 HX1 HK1 HRI
        obtain ⟨x0, x1⟩ := HX2.out.cells
        have f1 := HX2.out.free 1
        have hbl := HX2.out.lt
        have hCN6 : CN ≤ 6 := by
          have h1 := HOX.out.2.2.length_le
          have h2 := coursesOf_len cls
          have h3 := HL6.out.1
          have h4 := HCN.out
          omega
        have hqz : ∃ b2 o2, q.1 = some ⟨b2, o2, none⟩ ∧ b2 < M ∧ ∀ (j : Nat) (s : Str), cs[j]? = some s → w6.cell? ⟨b2, o2 + j, none⟩ = some (S3.strV s) := by
          rcases HRI2.out.t with h0 | ⟨b2, o2, hA, hP, hc⟩
          · exact absurd h0 HOX.out.2.1
          · exact ⟨b2, o2, hA, hP, hc⟩
        obtain ⟨b2, o2, hq1, hb2, hcs⟩ := hqz
        rw [hq1] at x1
        have hlit := World.ownsRow_lit (base := w6.heap.size) (e := 9) (size := 1) w6 #[] 0 (Nat.le_refl _) (by decide) rfl
        have HLIT := hid hlit
        have HNW1 : Hid (∀ (j : Nat) (u : Value), (S3.strVals cs)[j]? = some u → (w6.alloc (.cells #[] 9)).cell? ((⟨b2, o2, none⟩ : Addr).add j) = some u) := hid (fun j u hj => by
          unfold S3.strVals at hj
          rw [List.getElem?_map] at hj
          obtain ⟨s, hs, rfl⟩ := Option.map_eq_some_iff.1 hj
          rw [Addr.add_lit]
          exact Lib.cell?_alloc_some _ (hcs j s hs))
        have HLN : Hid ((S3.strVals cs).length = CN * 1) := hid (by rw [S3.strVals_len, HCN.out, Nat.mul_one])
        have HC3 : Hid (0 + CN ≤ maxLen) := by unfold maxLen; exact hid (by omega)
        have HC4 : Hid ((0 + CN) * 16 ≤ 140737488355328) := hid (by omega)
        have HC5 : Hid (∀ o : Obj, w6.heap.size ≤ (w6.alloc o).heap.size) := hid (fun o => by simp)
        clear hlit hcs
        go_wp2_with (at_builtin; (try rw [hq1]); refine wpList_append_own_at _ rfl _ _ 39 rfl w6.heap.size 9 i9 (.string ⟨#[]⟩) 1 16 Tryz.underlying39 hi9 hz9 hsi9 hby9 rfl (by decide) _ 0 [] rfl HLIT.out ⟨b2, o2, none⟩ CN q.2 (S3.strVals cs) rfl HLN.out HNW1.out (strVals_one cs) HC3.out HC4.out (HC5.out _) ?_)
        intro v7 w7 hown7 hgrow7 _ _
        have hb7 : Below w6.heap.size w6 w7 := ((Below.refl _ w6).alloc (Nat.le_refl _) (.cells #[] 9)).grown hgrow7 (by simp) (fun k e => Nat.le_of_eq (Option.some.inj e))
        obtain ⟨A7, c7, rfl⟩ := S3.row_slice hown7
        have HB7 := hid hb7
        have HX7 := hid (HX2.out.next hb7)
        have hown7' : (w7.alloc (.cells #[.string ⟨#[80, 72]⟩, .string more] 9)).ownsRow w6.heap.size 9 1 (.slice A7 CN c7) CN (S3.strVals cs) := World.ownsRow.alloc hown7 _
        have HOWN7 := hid hown7'
        have hmore : S3.strVals [[80, 72], lst more] = [.string ⟨#[80, 72]⟩, .string more] := by
          unfold S3.strVals S3.strV
          simp only [List.map_cons, List.map_nil]
        have HMO := hid hmore
        have HNW2 : Hid (∀ (j : Nat) (u : Value), [Value.string ⟨#[80, 72]⟩, .string more][j]? = some u → (w7.alloc (.cells #[.string ⟨#[80, 72]⟩, .string more] 9)).cell? ((⟨w7.heap.size, 0, none⟩ : Addr).add j) = some u) := hid (fun j u hj => by
          rw [Addr.add_lit, Lib.cell_of_heap (heap_alloc_new w7 _)]
          match j, hj with
          | 0, hj => simpa using hj
          | 1, hj => simpa using hj
          | j + 2, hj => simp at hj)
        have HON2 : Hid (∀ u ∈ [Value.string ⟨#[80, 72]⟩, .string more], u.oneCell' = true) := hid (by intro u hu; simp at hu; rcases hu with rfl | rfl <;> rfl)
        have HD3 : Hid (CN + 2 ≤ maxLen) := by unfold maxLen; exact hid (by omega)
        have HD4 : Hid ((CN + 2) * 16 ≤ 140737488355328) := hid (by omega)
        have HD5 : Hid (∀ o : Obj, w6.heap.size ≤ (w7.alloc o).heap.size) := hid (fun o => by have := HB7.out.size; simp; omega)
        obtain ⟨x0', x1'⟩ := HX7.out.cells
        have f7 := HX7.out.free 1
        have hbl7 := HX7.out.lt
        clear hown7 hgrow7 hb7 hown7' hmore x0 x1 f1 HC3 HC4 HC5 HNW1 HLN HLIT
        go_wp2_with (at_builtin; refine wpList_append_own_at _ rfl _ _ 39 rfl w6.heap.size 9 i9 (.string ⟨#[]⟩) 1 16 Tryz.underlying39 hi9 hz9 hsi9 hby9 rfl (by decide) _ CN (S3.strVals cs) rfl HOWN7.out ⟨w7.heap.size, 0, none⟩ 2 2 [.string ⟨#[80, 72]⟩, .string more] rfl rfl HNW2.out HON2.out HD3.out HD4.out (HD5.out _) ?_)
        intro v8 w8 hown8 hgrow8 _ _
        obtain ⟨A8, c8, rfl⟩ := S3.row_slice hown8
        have hb8 : Below w6.heap.size w7 w8 := ((Below.refl _ w7).alloc HB7.out.size _).grown hgrow8 (by have := HB7.out.size; simp; omega) (fun k e => (World.ownsRow.lt HOWN7.out k e).1)
        obtain ⟨cs2, hcs2⟩ : ∃ l, cs ++ [[80, 72], lst more] = l := ⟨_, rfl⟩
        have hrow8 : S3.StrRow w8 w6.heap.size (.slice A8 (CN + 2) c8) cs2 := by
          unfold S3.StrRow
          rw [← hcs2, S3.strVals_app, HMO.out, List.length_append, HCN.out]
          exact hown8
        have hl2 : cs2.length = CN + 2 := by rw [← hcs2, List.length_append, HCN.out]; first | done | rfl
        have hmr : ∀ s ∈ cs, s ∈ cs2 := fun s hs => by rw [← hcs2]; exact List.mem_append_left _ hs
        have hX8 := HX7.out.below hb8 hbl
        have hb68 := HB7.out.trans hb8
        have hbS : Below BX w6 (w8.setCell ⟨BX, 1, none⟩ (.slice A8 (CN + 2) c8)) := (hb68.mono (Nat.le_of_lt hbl)).setCell (p := ⟨BX, 1, none⟩) (Nat.le_refl _) _
        have hK9 := HK2.out.low hbS HBX.out.1 HBX.out.2
        obtain ⟨A8', c8', ev8, h81, h82, hin8⟩ := hrow8.strsIn
        have hci9 : CurrIn (w8.setCell ⟨BX, 1, none⟩ (.slice A8 (CN + 2) c8)) (fun k => k < (w8.setCell ⟨BX, 1, none⟩ (.slice A8 (CN + 2) c8)).heap.size) (code, cs2) (A8, c8) := by
          have e1 : A8 = A8' := by injection ev8
          have e3 : c8 = c8' := by injection ev8
          refine ⟨?_, by show cs2.length ≤ c8; rw [e3]; exact h81, by rw [e3]; exact h82⟩
          show S3.StrsIn _ _ A8 cs2
          rw [e1]
          exact (hin8.kept (fun k hk => Below.heap_setCell w8 ⟨BX, 1, none⟩ _ k (fun e => by have : k = BX := e; omega))).mono (fun k hk => by simpa [World.setCell] using hk.2)
        have hra9 : PairRow (w8.setCell ⟨BX, 1, none⟩ (.slice A8 (CN + 2) c8)) w5.heap.size (.slice Aa pa.length ca) pa :=
          World.ownsRow.kept (row_under HRA.out hb68) (put_grown (Below.refl _ w8) BX 1 _) (.inr fun e => by have := (World.ownsRow.lt HRA.out _ e).1; have := HB5.out; omega)
        have cP3 := pairs_any (code, cs2) (A8, c8) Ac cls cc (by have := HL6.out.1; omega) HL6.out.2.1 HL6.out.2.2 _ hci9 (hK9.c.mono (fun k hk => Nat.lt_of_lt_of_le hk hK9.z))
        unfold PairOut currV at cP3
        dsimp only at cP3
        rw [HNC.out, hl2] at cP3
        obtain ⟨pb, hpb⟩ : ∃ P, pairsM cs2 cls = P := ⟨_, rfl⟩
        have hplb := pairsM_len cs2 cls (by have := HL6.out.1; omega)
        have hsub := pairs_more hmr cls
        rw [hpb] at cP3 hplb hsub
        rw [HPA.out] at hsub
        have hX1e : ba code = X1 := HXE.out
        rw [hX1e] at cP3
        have CP3 := hid cP3
        have HK9 := hid hK9
        have HRA9 := hid hra9
        have HSUB := hid hsub
        have HPLB := hid hplb
        obtain ⟨x0, x1⟩ := hX8.cells
        have f8 := hX8.free 1
        clear hown8 hgrow8 hb8 hcs2 hrow8 hl2 hmr hX8 hb68 hbS hK9 ev8 h81 h82 hin8 hci9 hra9 cP3 hpb hplb hsub hX1e x0' x1' f7 hbl7 HNW2 HON2 HD3 HD4 HD5 HRA HRI2 HX2 HX7 HOWN7 HMO
        go_wp2_with fail
        generalize w8.setCell ⟨BX, 1, none⟩ (.slice A8 (CN + 2) c8) = w9 at CP3 HK9 HRA9 ⊢
        refine CP3.out.mono ?_
        rintro e w10 ⟨⟨vb, rfl, hrb⟩, hb10⟩
        obtain ⟨Ab, cb, rfl⟩ := S3.row_slice hrb
        have hj0 : KJ w M Ac cls (some ⟨fb, fo, none⟩) ls w5.heap.size w9.heap.size (.slice Aa pa.length ca) (.slice Ab pb.length cb) pa pb w10 := ⟨HK9.out.next hb10, row_under HRA9.out hb10, hrb⟩
        have HJ0 := hid hj0
        obtain ⟨NA, hNA⟩ : ∃ k, pa.length = k := ⟨_, rfl⟩
        obtain ⟨NB, hNB⟩ : ∃ k, pb.length = k := ⟨_, rfl⟩
        have HNA := hid hNA
        have HNB := hid hNB
        rw [hNA, hNB] at HJ0
        rw [hNA, hNB]
        have hna16 : NA ≤ 1600 := by rw [← hNA]; exact HPL.out
        have hnb16 : NB ≤ 1600 := by rw [← hNB]; exact HPLB.out
        clear hrb hb10 hj0 HK9 HRA9 CP3 hNA hNB x0 x1 f8 hbl HPL HPLB HB5 HBX HK2 HB7
        go_wp2
        go_loopw [12, 13] (fun kv jv wr => ∃ (k j : Nat), kv = .int .i64 (k : Int) ∧ jv = .int .i64 (j : Int) ∧ j ≤ NA ∧ k ≤ NB ∧ Hid ((pa.drop j).Sublist (pb.drop k)) ∧ Hid (KJ w M Ac cls (some ⟨fb, fo, none⟩) ls w5.heap.size w9.heap.size (.slice Aa NA ca) (.slice Ab NB cb) pa pb wr)) (fun _ jv _ => NA - (RowKit.intOf jv).toNat)
        case atStart => exact ⟨0, 0, rfl, rfl, Nat.zero_le _, Nat.zero_le _, hid (by rw [List.drop_zero, List.drop_zero]; exact HSUB.out), HJ0⟩
        case round =>
          clear HJ0 HSUB y0 y1
          obtain ⟨k, j, rfl, rfl, hj, hk, hS, hJ⟩ := hrel
          by_cases hjt : j < NA
          · have hjz : (j : Int) < (NA : Int) := by omega
            have dj : decide (NA ≤ j) = false := decide_eq_false (by omega)
            have hjl : j < pa.length := by rw [HNA.out]; exact hjt
            obtain ⟨⟨p0, p1⟩, hp⟩ : ∃ p, pa[j] = p := ⟨_, rfl⟩
            have hdr : pa.drop j = (p0, p1) :: pa.drop (j + 1) := by rw [List.drop_eq_getElem_cons hjl, hp]
            have hmem : (p0, p1) ∈ pairsM cs cls := by rw [HPA.out, ← hp]; exact List.getElem_mem hjl
            have hpj : pa[j]? = some (p0, p1) := by rw [List.getElem?_eq_getElem hjl, hp]
            have HDR := hid hdr
            have HMEM := hid hmem
            have HPJ := hid hpj
            have hS1 : Hid (((p0, p1) :: pa.drop (j + 1)).Sublist (pb.drop k)) := hid (by rw [← hdr]; exact hS.out)
            have hJ1 := hJ
            clear hp hdr hmem hpj hS hJ
            go_wp2
            go_loopw [12] (fun kv wr2 => ∃ (k : Nat), kv = .int .i64 (k : Int) ∧ k ≤ NB ∧ Hid (((p0, p1) :: pa.drop (j + 1)).Sublist (pb.drop k)) ∧ Hid (KJ w M Ac cls (some ⟨fb, fo, none⟩) ls w5.heap.size w9.heap.size (.slice Aa NA ca) (.slice Ab NB cb) pa pb wr2)) (fun kv _ => NB - (RowKit.intOf kv).toNat)
            case atStart => exact ⟨k, rfl, hk, hS1, hJ1⟩
            case round =>
              clear hS1 hJ1 hk
              obtain ⟨k, rfl, hk, hS, hJ⟩ := hrel
              have hkb : k < NB := by rw [← HNB.out]; exact sub_some hS.out
              have hkz : (k : Int) < (NB : Int) := by omega
              have dkb : decide (NB ≤ k) = false := decide_eq_false (by omega)
              have hkl : k < pb.length := by rw [HNB.out]; exact hkb
              obtain ⟨ga, cap', hv, a0, a1⟩ := hJ.out.a.cell HPJ.out
              obtain ⟨hA, _, hcp⟩ : Aa = some ⟨ga, 0, none⟩ ∧ NA = pa.length ∧ ca = cap' := by injection hv with e1 e2 e3; exact ⟨e1, e2, e3⟩
              subst hA
              obtain ⟨⟨r0, r1⟩, hr⟩ : ∃ p, pb[k] = p := ⟨_, rfl⟩
              obtain ⟨gb, capb, hv2, b0, b1⟩ := hJ.out.b.cell (show pb[k]? = some (r0, r1) by rw [List.getElem?_eq_getElem hkl, hr])
              have hB : Ab = some ⟨gb, 0, none⟩ := by injection hv2
              subst hB
              dsimp only at a0 a1 b0 b1
              clear hv hv2 hcp
              have hgd := fun w x y => run_guard_pair w .neq x y #[.int .i64 r0, .int .i64 r1] #[.int .i64 p0, .int .i64 p1]
              by_cases heq : (r0, r1) = (p0, p1)
              · injection heq with e0 e1
                subst e0 e1
                have hne : ∀ w, (binOp .neq 61 (.agg #[.int .i64 r0, .int .i64 r1]) (.agg #[.int .i64 r0, .int .i64 r1])).run Tryz.prog w = .ok (.bool false) w := fun w => by rw [run_neq_pair]; simp
                have HS := hS
                clear hS hr
                go_wp2
                go_quiet (fail)
                have HJ2 := hid (hJ.out.next (S3.below_drewN (Below.refl _ wr) nq))
                clear hJ a0 a1 b0 b1 hne hgd
                go_wp2_with fail
                obtain ⟨i1, k1, hi1, hk1, hpe, hs1, hs2, hpb⟩ := pair_facts HMEM.out
                have e0 : r0 = (i1 : Int) := congrArg Prod.fst hpe
                have e1 : r1 = (k1 : Int) := congrArg Prod.snd hpe
                have hcin := HJ2.out.k.c
                obtain ⟨fb1, fo1, q1, hAc, hfb1, _, hcx⟩ := hcin.at_ hi1
                obtain ⟨fb2, fo2, q2, hAc2, _, _, hcy⟩ := hcin.at_ hk1
                have hAe := hAc.symm.trans hAc2
                injection hAe with hAe
                injection hAe with e2 e3
                subst e2 e3
                obtain ⟨gx, _, hv3, a0, a1⟩ := HJ2.out.a.cell HPJ.out
                have e4 : ga = gx := by injection hv3 with e _ _; injection e with e; injection e with e
                subst e4
                subst hAc
                obtain ⟨x, hxe⟩ : ∃ x, cls[i1] = x := ⟨_, rfl⟩
                obtain ⟨y, hye⟩ : ∃ y, cls[k1] = y := ⟨_, rfl⟩
                rw [hxe] at hcx hpb
                rw [hye] at hcy hpb
                dsimp only at a0 a1
                rw [e0] at a0
                rw [e1] at a1
                have HW := HJ2.out.k
                generalize wr.drewN nq = wq at HJ2 hcin hcx hcy a0 a1 HW ⊢
                obtain ⟨x0, x1, x2, x3, x4, x5, x6, x7, x8⟩ := hcx
                obtain ⟨y0, y1, y2, y3, y4, y5, y6, y7, y8⟩ := hcy
                have ca0 := cell_regrown a0
                have ca1 := cell_regrown a1
                have cx0 := cell_regrown x0
                have cx1 := cell_regrown x1
                have cx2 := cell_regrown x2
                have cx3 := cell_regrown x3
                have cx4 := cell_regrown x4
                have cx5 := cell_regrown x5
                have cx6 := cell_regrown x6
                have cx7 := cell_regrown x7
                have cx8 := cell_regrown x8
                have cy0 := cell_regrown y0
                have cy1 := cell_regrown y1
                have cy2 := cell_regrown y2
                have cy3 := cell_regrown y3
                have cy4 := cell_regrown y4
                have cy5 := cell_regrown y5
                have cy6 := cell_regrown y6
                have cy7 := cell_regrown y7
                have cy8 := cell_regrown y8
                have cP : ∀ d os, Calls Tryz.prog 30 #[.agg #[.string (ba x.code), .string (ba x.course), .string (ba x.part), .int .i64 x.len, .slice q1.aP x.pats.length q1.cP, .int .i64 x.seats, .slice q1.aF x.feats.length q1.cF, .slice q1.aS x.staff.length q1.cS, .slice q1.aT x.starts.length q1.cT], .agg #[.string (ba y.code), .string (ba y.course), .string (ba y.part), .int .i64 y.len, .slice q2.aP y.pats.length q2.cP, .int .i64 y.seats, .slice q2.aF y.feats.length q2.cF, .slice q2.aS y.staff.length q2.cS, .slice q2.aT y.starts.length q2.cT]] (Sort.grow (redrawn wq d) os) fun e w'' => e = .returned (.bool false) ∧ ∃ p : Regrown, w'' = Sort.grow (redrawn wq p.d) p.os := fun d os => Calls.regrown_of (by
                  have := rpar_any x y q1 q2 (Sort.grow (redrawn wq d) os)
                  rw [hpb] at this
                  exact this)
                have hcg : ∀ d os, ClassesIn (Sort.grow (redrawn wq d) os) (fun k => k < (Sort.grow (redrawn wq d) os).heap.size) (some ⟨fb1, fo1, none⟩) cls := fun d os => by
                  have hb := below_regrown wq d os
                  exact (hcin.kept (fun k hk => hb.block k (Nat.lt_of_lt_of_le hk HW.z))).mono (fun k hk => Nat.lt_of_lt_of_le hk (Nat.le_trans HW.z hb.size))
                have cS1 : ∀ d os, Calls Tryz.prog 31 #[.slice (some ⟨fb1, fo1, none⟩) NC cc, .int .i64 (i1 : Int)] (Sort.grow (redrawn wq d) os) fun e w'' => e = .returned (.bool true) ∧ ∃ p : Regrown, w'' = Sort.grow (redrawn wq p.d) p.os := fun d os => Calls.regrown_of (by
                  have := rsingle_any (some ⟨fb1, fo1, none⟩) cls cc i1 hi1 (by have := HL6.out.1; omega) _ (hcg d os)
                  rw [HNC.out, hs1] at this
                  exact this)
                have cS2 : ∀ d os, Calls Tryz.prog 31 #[.slice (some ⟨fb1, fo1, none⟩) NC cc, .int .i64 (k1 : Int)] (Sort.grow (redrawn wq d) os) fun e w'' => e = .returned (.bool true) ∧ ∃ p : Regrown, w'' = Sort.grow (redrawn wq p.d) p.os := fun d os => Calls.regrown_of (by
                  have := rsingle_any (some ⟨fb1, fo1, none⟩) cls cc k1 hk1 (by have := HL6.out.1; omega) _ (hcg d os)
                  rw [HNC.out, hs2] at this
                  exact this)
                have hi1N : i1 < NC := by rw [← HNC.out]; exact hi1
                have hk1N : k1 < NC := by rw [← HNC.out]; exact hk1
                have hi1z : (i1 : Int) < (NC : Int) := by omega
                have hk1z : (k1 : Int) < (NC : Int) := by omega
                have di1 : decide (NC ≤ i1) = false := decide_eq_false (by omega)
                have dk1 : decide (NC ≤ k1) = false := decide_eq_false (by omega)
                have hkN : ((k : Int) == (NB : Int)) = false := beq_eq_false_iff_ne.2 (by omega)
                have HST : Hid ((pa.drop (j + 1)).Sublist (pb.drop k)) := hid (sub_tail HS.out)
                clear hcin hcg hpb hs1 hs2 hAc2 hxe hye hfb1 a0 a1 x0 x1 x2 x3 x4 x5 x6 x7 x8 y0 y1 y2 y3 y4 y5 y6 y7 y8 HS HDR HMEM hpe
                refine wp_region_quiet_below (by kernel_rfl) (by kernel_rfl) ?_
                repeat (go_big_quiet_step (first | with_reducible exact cP _ _ | with_reducible exact cS1 _ _ | with_reducible exact cS2 _ _))
                refine wpQuiet_nil ?_
                intro _ hw'
                obtain ⟨⟨dq, osq⟩, hw''⟩ := hw'
                subst hw''
                have HJ3 := hid (HJ2.out.next (below_regrown wq dq osq))
                clear ca0 ca1 cx0 cx1 cx2 cx3 cx4 cx5 cx6 cx7 cx8 cy0 cy1 cy2 cy3 cy4 cy5 cy6 cy7 cy8 cP cS1 cS2
                go_wp2
                go_roundw
                case rel => exact ⟨k, j + 1, by go_num, by go_num, by omega, hk, HST, HJ3⟩
                case measure => simp [RowKit.intOf]; omega
              · have hne : ∀ w, (binOp .neq 61 (.agg #[.int .i64 r0, .int .i64 r1]) (.agg #[.int .i64 p0, .int .i64 p1])).run Tryz.prog w = .ok (.bool true) w := fun w => by
                  rw [run_neq_pair]
                  have : (r0 == p0 && r1 == p1) = false := by
                    cases h : (r0 == p0 && r1 == p1) with
                    | false => rfl
                    | true =>
                      simp at h
                      exact absurd (by rw [h.1, h.2]) heq
                  rw [this]; rfl
                have HS2 : Hid (((p0, p1) :: pa.drop (j + 1)).Sublist (pb.drop (k + 1))) := hid (sub_skip hkl hS.out (by rw [hr]; exact heq))
                clear hS hr heq
                go_wp2
                go_quiet (fail)
                have HJ2 := hid (hJ.out.next (S3.below_drewN (Below.refl _ wr) nq))
                clear hJ a0 a1 b0 b1 hne hgd
                go_wp2
                go_roundw
                case rel => exact ⟨k + 1, by go_num, by omega, HS2, HJ2⟩
                case measure => simp [RowKit.intOf]; omega
          · have hjz : ¬ (j : Int) < (NA : Int) := by omega
            clear hS
            go_wp2
            go_roundw
            case rel => exact ⟨i + 1, by go_num, by omega, hid hJ.out.k⟩
            case measure => simp [RowKit.intOf]; omega
      · have hltz : ¬ (i : Int) < (NL : Int) := by omega
        have cK1 := hid (cK.out _ hK.out.b)
        go_wp2_with fail
        refine cK1.out.mono ?_
        rintro e w9 ⟨rfl, hb9⟩
        have HB9 := hid (hK.out.b.trans (hb9.mono hK.out.b.size))
        clear hb9
        go_wp2
        go_ret
        exact ⟨rfl, HB9.out⟩
  · rw [decide_eq_false hl] at cL
    clear h
    go_enter Tryz.func6, Tryz.ntmps6
    go_wp2_with fail
    refine cL.mono ?_
    rintro e w' ⟨rfl, rfl⟩
    go_wp2_with fail
    refine (cK.out _ (Below.refl _ _)).mono ?_
    rintro e w2 ⟨rfl, hb2⟩
    have HB2 := hid hb2
    clear hb2
    go_wp2
    go_ret
    exact ⟨rfl, HB2.out⟩
end Go.Proofs.YtpaejkhaiifgdaaGreatDoor.S11

