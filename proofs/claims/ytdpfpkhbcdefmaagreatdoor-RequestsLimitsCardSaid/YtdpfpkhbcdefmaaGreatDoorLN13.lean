/-
  The walk of RequestsLimits. Conditions: the variables hold what their text lays.
-/
import Derived.Test.YtdpfpkhbcdefmaaGreatDoorQN01
import Derived.Test.YtdpfpkhbcdefmaaGreatDoorQN02
import Derived.Test.YtdpfpkhbcdefmaaGreatDoorQN03
import Derived.Test.YtdpfpkhbcdefmaaGreatDoorQN04
import Derived.Test.YtdpfpkhbcdefmaaGreatDoorQN05
import Derived.Test.YtdpfpkhbcdefmaaGreatDoorQN06
import Derived.Test.YtdpfpkhbcdefmaaGreatDoorQN07
import Derived.Test.YtdpfpkhbcdefmaaGreatDoorQN08
import Derived.Test.YtdpfpkhbcdefmaaGreatDoorQN09
import Derived.Test.YtdpfpkhbcdefmaaGreatDoorQN10
import Derived.Test.YtdpfpkhbcdefmaaGreatDoorQN11
import Derived.Test.YtdpfpkhbcdefmaaGreatDoorQN12
import Derived.Test.YtdpfpkhbcdefmaaGreatDoorQN13
import Derived.Test.YtdpfpkhbcdefmaaGreatDoorQN14
import Derived.Test.YtdpfpkhbcdefmaaGreatDoorQN15
import Derived.Test.YtdpfpkhbcdefmaaGreatDoorQN16
import Derived.Test.YtdpfpkhbcdefmaaGreatDoorQN17
import Derived.Test.YtdpfpkhbcdefmaaGreatDoorQN18
import Derived.Test.YtdpfpkhbcdefmaaGreatDoorQN19
import Derived.Test.YtdpfpkhbcdefmaaGreatDoorQN20
import Derived.Test.YtdpfpkhbcdefmaaGreatDoorQN21
import Derived.Test.YtdpfpkhbcdefmaaGreatDoorQN22
import Derived.Test.YtdpfpkhbcdefmaaGreatDoorQN24
import Derived.Test.YtdpfpkhbcdefmaaGreatDoorLN01
import Derived.Test.YtdpfpkhbcdefmaaGreatDoorLN02
import Derived.Test.YtdpfpkhbcdefmaaGreatDoorLN03
import Derived.Test.YtdpfpkhbcdefmaaGreatDoorLN04
import Derived.Test.YtdpfpkhbcdefmaaGreatDoorLN05
import Derived.Test.YtdpfpkhbcdefmaaGreatDoorLN06
import Derived.Test.YtdpfpkhbcdefmaaGreatDoorLN07
import Derived.Test.YtdpfpkhbcdefmaaGreatDoorLN08
import Derived.Test.YtdpfpkhbcdefmaaGreatDoorLN09
import Derived.Test.YtdpfpkhbcdefmaaGreatDoorLN10
import Derived.Test.YtdpfpkhbcdefmaaGreatDoorLN11
import Derived.Test.YtdpfpkhbcdefmaaGreatDoorLN12
import Derived.Test.YtdpfpkhbcdefmaaGreatDoorProg
import Derived.WalkKit
import Derived.WalkSpells
import Derived.WalkLawsBesides
import Derived.Lib.Hide
import Derived.Deep.QuietTactic
import Derived.BigQuiet
import Derived.Laws.Rows
import Derived.OwnWalk
import Derived.Lib.BufferWrite
import Derived.Lib.UnsafeStr
import Derived.Laws.IdiomStrings
import Derived.Laws.BytesArg
import Derived.Laws.BytesString
import Derived.Laws.OwnMore
import Derived.Lib.IndexLaws
import Derived.Lib.ItoaNum
import Derived.Lib.Atoi
import Derived.Lib.Bytealg
import Derived.RangeFuncNested
import Derived.RangeFuncBound
import Derived.RangeFuncCalls
import Derived.RangeFuncLeaves
import Derived.Shelf.Abstract
import Derived.Shelf.RegionOpen
import Derived.OwnWalkIn
import Derived.Lib.SlTrimSet
import Derived.Shelf.Strings.Builder1
import Derived.Shelf.Strings.Builder2
import Derived.Shelf.Strings.OnBuilder
import Derived.Shelf.Strings.Trim
import Derived.Shelf.Small.Utf8
import Derived.Shelf.Small.Bits
import Derived.Shelf.Small.Strs
import Derived.Shelf.Small.Wraps
import Derived.Shelf.Strings.BuilderF
import Derived.Shelf.Strings.BuilderK
import Derived.Shelf.Strings.Builder2Cap
import Derived.Shelf.Strconv.Atoi
import Derived.Shelf.Strconv.Itoa0
import Derived.Shelf.Strconv.Itoa1
import Derived.Shelf.LaysM
import Derived.Shelf.Strconv.Itoa2
import Derived.Shelf.Strconv.Itoa3
import Derived.Shelf.Strconv.AtoiErrFast
import Derived.Shelf.Strconv.ParseIntEmpty
import Derived.Shelf.Strconv.AtoiFail
import Derived.Shelf.Strconv.Clone
import Derived.Shelf.Strconv.SyntaxError
import Derived.Shelf.LaysC
import Derived.Shelf.Strconv.ToError
import Derived.Shelf.Strconv.AtoiErr
import Derived.Shelf.Strings.Search1
import Derived.Shelf.Strings.Search2
import Derived.Shelf.Strings.Search3
import Derived.Shelf.Strings.Cut
import Derived.Shelf.Strings.Shaped
import Derived.Shelf.Strings.Prefix
import Derived.Shelf.Strings.Runes
import Derived.Shelf.Strings.AsciiSet
import Derived.Shelf.Bits.Mul64
import Derived.Shelf.Strings.Repeat
import Derived.Shelf.Unicode.DecodeSlow
import Derived.Shelf.Strings.BuilderCap
import Derived.Shelf.Slices.Turned
import Derived.Ground.Names2Prog
import Derived.Shelf.Slices.Clone
import Derived.Ground.SlsfProg
import Derived.Shelf.SlSortCmp.Insertion
import Derived.Shelf.SlSortCmp.Insertion1
import Derived.Shelf.Strings.SlTrimAscii
import Derived.Lib.AtoiErrMem
import Derived.Handy
import Derived.Laws.ResultCell
import Derived.RegionTactic
import Derived.Lib.Repeat
import Derived.Deep.RegionHeld3
import Derived.Lib.SlicesS
import Derived.TacticsInMore
import Derived.LoopNIn
import Derived.LoopIn
import Derived.Laws.BitsAllLaws
import Derived.Laws.BitsLemmas
import Derived.Deep.MidRow
import Derived.Deep.DeepCutAuto
import Derived.Lib.Join
import Derived.Laws.Concat
import Derived.Laws.AppendOwn
import Derived.IntWalk
import Derived.Maps.OwnSet
import Derived.Maps.Range
import Derived.Deep.RegionLaw
import Derived.OneCell
import Derived.Laws.Tables
import Derived.Laws.CopyOwn
import Derived.OrdersHeld
import Derived.Deep.CutBlock
import Derived.Maps.AppendAt
import Derived.Sort.WalkA
import Derived.Sort.LotA
import Derived.Shelf.SlGeneric
import Derived.Shelf.SlSortCmp.NoneTotal
import Derived.Deep.AppendLies
import Derived.StillTailTactics
import Derived.DeepKeys4
import Derived.Maps.OwnOps
import Derived.Maps.Ext
import Derived.Lib.QuietBelow
import Derived.Maps.RangeWalk
import Derived.Sort.KeysCollected
import Derived.Sort.OwnSorted
import Derived.Sort.Walk0
import Derived.Deep.RegionLawGrows
import Derived.RangeFuncBox
import Derived.Lib.AppendZerosOnto
import Derived.Lib.SliceRun
import Derived.Deep.LoopGhost
import Derived.Lib.AppendIntMem
set_option linter.unusedVariables false
namespace Go.Proofs.YtdpfpkhbcdefmaaGreatDoor.S12
open Go Go.Proofs Go.RowKit Go.Lib Go.Proofs.YtdpfpkhbcdefmaaGreatDoor Go.Proofs.YtdpfpkhbcdefmaaGreatDoor.S10

set_option maxHeartbeats 32000000 in
set_option maxRecDepth 100000 in
theorem limits_any (z : Int) (w : World) (hE : S3.Env w) : Calls Tryz.prog 6 #[.int .i64 z] w fun e w' => e = .returned (.bool true) ∧ Below w.heap.size w w' := by
  obtain ⟨iC, hiC, hzC, hsiC, hbyC⟩ := info_parts infoReq
  obtain ⟨iS, hiS, hzS, hsS, hbS⟩ := info_parts infoStrs7
  have cM := hid (mod_any z 5 (by decide) w)
  have hmr := modI_range z 5 (by decide)
  obtain ⟨m, hm⟩ : ∃ m : Nat, modI z 5 = (m : Int) := ⟨(modI z 5).toNat, by omega⟩
  rw [hm] at cM hmr
  have hm5 : m < 5 := by omega
  have HEE := hid (fun W (hb : Below w.heap.size w W) => hE.below hb)
  obtain ⟨top, htop⟩ : ∃ t, 62 + m = t := ⟨_, rfl⟩
  have ht66 : top ≤ 66 := by omega
  have htz : (62 : Int) + (m : Int) = (top : Int) := by omega
  have hqt : IntKind.i64.wrap (62 + (m : Int)) = 62 + (m : Int) := IntWalk.i64_in _ (by omega)
  have HW20 : Hid ((wantF (limL top top) [115, 48, 49]).length < 20) := hid (by rw [← htop]; exact lim_want m hm5)
  have HEX : Hid (∀ (W : World) (A : Option Addr) (c : Nat) (Ax : Option Addr) (cx : Nat), Below w.heap.size w W → ReqsIn W (fun k => k < W.heap.size) A (limL top top) → RecsIn W (fun k => k < W.heap.size) Ax (plainM (limG top top)) →
      Calls Tryz.prog 3 #[.slice A top c, .slice Ax top cx, .string ⟨#[115, 48, 49]⟩] W fun e w' => e = .returned (.bool true) ∧ Below W.heap.size W w') := hid (fun W A c Ax cx hb hr hx => by
    have h := exact_any A (limL top top) c Ax (plainM (limG top top)) cx ⟨#[115, 48, 49]⟩ W (HEE.out W hb) hr (by rw [limL_len]; omega) (fun r hr => by have := (limL_small r hr).1; omega) (fun r hr => by have := (limL_small r hr).2; omega) (said_small (by rw [show lst (⟨#[115, 48, 49]⟩ : ByteArray) = [115, 48, 49] from rfl]; exact HW20.out)) hx (by rw [plainM_len, limG_len]; omega) lim_texts
    rw [limL_len, plainM_len, limG_len] at h
    exact h)
  have HP : Hid (∀ (W : World) (A6 : Option Addr) (c6 : Nat), RowsIn W (fun k => k < W.heap.size) A6 (limG top top) → Calls Tryz.prog 31 #[.slice A6 top c6] W fun e w' =>
      (∃ (A7 : Option Addr) (c7 : Nat), e = .returned (.slice A7 top c7) ∧ RecsIn w' (fun k => k < w'.heap.size) A7 (plainM (limG top top))) ∧ Below W.heap.size W w') := hid (fun W A6 c6 hr => by
    have cP := plain_any A6 (limG top top) c6 W.heap.size W (Nat.le_refl _) hr (by rw [limG_len]; omega) (fun r hr => by have := (limG_small r hr).1; omega) (fun r hr x hx => by have := (limG_small r hr).2 x hx; omega)
    rw [limG_len] at cP
    refine cP.mono ?_
    rintro e w' ⟨⟨v, rfl, hrr⟩, hb⟩
    obtain ⟨A7, c7, rfl, _, _, hri⟩ := hrr.recsIn
    rw [plainM_len, limG_len]
    exact ⟨⟨A7, c7, rfl, hri.mono (fun k hk => hk.2)⟩, hb⟩)
  have HK0 := hid (KLM.start w)
  clear hm hE htop
  go_enter Tryz.func6, Tryz.ntmps6
  go_wp2_with fail
  refine cM.out.mono ?_
  rintro e w1 ⟨rfl, rfl⟩
  clear cM
  go_wp2
  go_loopw [3, 4, 5] (fun v1 v2 iv wr => ∃ (i j : Nat) (P : List ReqP2) (L : List RowA) (A1 : Option Addr) (c1 : Nat) (A2 : Option Addr) (c2 : Nat), v1 = .slice A1 j c1 ∧ v2 = .slice A2 j c2 ∧ iv = .int .i64 (i : Int) ∧ i + j = top ∧ Hid (P.length = j) ∧ Hid (L.length = j) ∧ Hid (P.map (·.1) = limL top j) ∧ Hid (∀ p ∈ P, p.1.l = [] ∧ p.2 = (none, 0)) ∧ Hid (L.map (·.1) = limG top j) ∧ Hid (KLM w P L (.slice A1 j c1) (.slice A2 j c2) wr)) (fun _ _ iv _ => (RowKit.intOf iv).toNat)
  case atStart => exact ⟨top, 0, [], [], none, 0, none, 0, rfl, rfl, by first | rfl | (congr 1), rfl, hid rfl, hid rfl, hid rfl, hid (fun p hp => by simp at hp), hid rfl, HK0⟩
  case round =>
    clear HK0
    obtain ⟨i, j, P, L, A1, c1, A2, c2, rfl, rfl, rfl, hij, hPl, hLl, hP, hPn, hL, hK⟩ := hrel
    by_cases hz : 0 < i
    · have hqz : (0 : Int) < (i : Int) := by omega
      obtain ⟨a, ha⟩ : ∃ a, i / 10 = a := ⟨_, rfl⟩
      obtain ⟨b, hb⟩ : ∃ b, i % 10 = b := ⟨_, rfl⟩
      have ha9 : a ≤ 9 := by omega
      have hb9 : b ≤ 9 := by omega
      have hta : (i : Int).tdiv 10 = (a : Int) := by rw [← ha]; rfl
      have htb : (i : Int).tmod 10 = (b : Int) := by rw [← hb]; rfl
      have qa : IntKind.i64.wrap (a : Int) = (a : Int) := IntWalk.i64_in _ (by omega)
      have qb : IntKind.i64.wrap (b : Int) = (b : Int) := IntWalk.i64_in _ (by omega)
      have qa1 : IntKind.i64.wrap (48 + (a : Int)) = 48 + (a : Int) := IntWalk.i64_in _ (by omega)
      have qb1 : IntKind.i64.wrap (48 + (b : Int)) = 48 + (b : Int) := IntWalk.i64_in _ (by omega)
      have qa2 : IntKind.u8.wrap (48 + (a : Int)) = 48 + (a : Int) := by simp [IntKind.wrap, IntKind.bits, IntKind.signed]; omega
      have qb2 : IntKind.u8.wrap (48 + (b : Int)) = 48 + (b : Int) := by simp [IntKind.wrap, IntKind.bits, IntKind.signed]; omega
      have hlb := lim_bytes a b ha9 hb9
      obtain ⟨xa, hxa⟩ : ∃ x, UInt8.ofNat (48 + a) = x := ⟨_, rfl⟩
      obtain ⟨xb, hxb⟩ : ∃ x, UInt8.ofNat (48 + b) = x := ⟨_, rfl⟩
      have hlS : limS i = [115, xa, xb] := by unfold limS; rw [ha, hb, hxa, hxb]
      rw [hxa, hxb] at hlb
      have hcv : (Go.convert 59 9 (.slice (some ⟨wr.heap.size, 0, none⟩) 2 2)).run Tryz.prog (wr.alloc (.cells #[.int .u8 (48 + (a : Int)), .int .u8 (48 + (b : Int))] 5)) = .ok (.string ⟨#[xa, xb]⟩) (wr.alloc (.cells #[.int .u8 (48 + (a : Int)), .int .u8 (48 + (b : Int))] 5)) := by
        have ho := World.ownsRow_lit (base := wr.heap.size) (e := 5) (size := 1) wr #[.int .u8 (48 + (a : Int)), .int .u8 (48 + (b : Int))] 2 (Nat.le_refl _) (by unfold maxLen; omega) rfl
        rw [show (#[Value.int .u8 (48 + (a : Int)), .int .u8 (48 + (b : Int))] : Array Value).toList = _ from hlb] at ho
        exact row_string (P := Tryz.prog) (l := [xa, xb]) ho 59 5 9 Tryz.underlying59 Tryz.underlying5 Tryz.underlying9
      obtain ⟨S, hS⟩ : ∃ S : ByteArray, (⟨#[115]⟩ : ByteArray) ++ ⟨#[xa, xb]⟩ = S := ⟨_, rfl⟩
      have hadd : ∀ w, (Op.stringOp .add (⟨#[115]⟩ : ByteArray) ⟨#[xa, xb]⟩).run Tryz.prog w = .ok (.string S) w := fun w => by rw [← hS]; exact run_string_add_sum (w := w) _ _ (by show (1 : Nat) + 2 ≤ 9223372036854775807; omega)
      have hSb : S = ba (limS i) := by rw [← hS, hlS]; rfl
      have HSB := hid hSb
      have HSS := hid hS
      have hk1 := hK.out.next ((Below.refl _ wr).alloc (Nat.le_refl _) (.cells #[.int .u8 (48 + (a : Int)), .int .u8 (48 + (b : Int))] 5))
      have hvs : reqVs (limR i) (none, 0) = [.string S, .string ⟨#[65]⟩, .int .i64 1, .slice none 0 0] := by rw [hSb]; rfl
      have hCC := fun W => four_newR W (limR i) (none, 0)
      have hCO := req_one (limR i) (none, 0)
      rw [hvs] at hCO
      have hCC := hCC (wr.alloc (.cells #[.int .u8 (48 + (a : Int)), .int .u8 (48 + (b : Int))] 5))
      rw [hvs] at hCC
      simp only [limR] at hCC
      rw [← hSb, show ba [65] = ⟨#[65]⟩ from rfl, show ([] : List Str).length = 0 from rfl, show (wr.alloc (.cells #[.int .u8 (48 + (a : Int)), .int .u8 (48 + (b : Int))] 5)).heap.size = wr.heap.size + 1 by simp] at hCC
      have HVS := hid hvs
      have HCC := hid hCC
      have HCO := hid hCO
      have hrow := hk1.r
      rw [hPl.out] at hrow
      have HROW := hid hrow
      have HK1 := hid hk1
      have HM1 : Hid (j + 1 ≤ maxLen) := hid (by unfold maxLen; omega)
      have HM2 : Hid ((j + 1) * 64 ≤ 140737488355328) := hid (by omega)
      have HBS : Hid (∀ o : Obj, w.heap.size ≤ ((wr.alloc (.cells #[.int .u8 (48 + (a : Int)), .int .u8 (48 + (b : Int))] 5)).alloc o).heap.size) := hid (fun o => by have := hK.out.b.size; simp; omega)
      clear ha hb hlb hxa hxb hlS hS hSb hk1 hvs hCC hCO hrow
      go_wp2_with (at_builtin; (try rw [HSS.out]); refine wpList_append_own_at _ rfl _ _ 22 rfl w.heap.size 61 iC (.agg #[.string ⟨#[]⟩, .string ⟨#[]⟩, .int .i64 0, .slice none 0 0]) 4 64 Tryz.underlying22 hiC hzC hsiC hbyC rfl (by decide) (.slice A1 j c1) j (reqVals P) rfl (World.ownsRow.alloc HROW.out _) ⟨wr.heap.size + 1, 0, none⟩ 1 1 [.string S, .string ⟨#[65]⟩, .int .i64 1, .slice none 0 0] rfl rfl HCC.out HCO.out HM1.out HM2.out (HBS.out _) ?_)
      intro v' w5 hown hgrow _ hat
      obtain ⟨g1, k1, rfl⟩ := S3.row_slice hown
      have HK5 := hid (KLM.app1 (r := limR i) (q := (none, 0)) (HK1.out.next ((Below.refl _ _).alloc (Nat.le_refl _) (.cells #[.string S, .string ⟨#[65]⟩, .int .i64 1, .slice none 0 0] 61))) (hgrow) (by rw [hPl.out, HVS.out]; exact hown) (hat.imp id (fun h => ⟨_, h, by simp⟩)))
      clear hown hgrow hat HK1 HROW HM1 HM2 HBS HCC HCO hcv hadd hK HVS
      have hb1 := (Below.refl w5.heap.size w5).alloc (Nat.le_refl _) (.cells #[.string S, .string ⟨#[65]⟩, .string ⟨#[49]⟩, .string ⟨#[]⟩] 9)
      have hk6 := HK5.out.next hb1
      have hrowi : S3.StrRow (w5.alloc (.cells #[.string S, .string ⟨#[65]⟩, .string ⟨#[49]⟩, .string ⟨#[]⟩] 9)) w5.heap.size (.slice (some ⟨w5.heap.size, 0, none⟩) (limF i).length 4) (limF i) := by
        unfold S3.StrRow
        rw [show S3.strVals (limF i) = [.string (ba (limS i)), .string ⟨#[65]⟩, .string ⟨#[49]⟩, .string ⟨#[]⟩] from rfl, ← HSB.out]
        exact World.ownsRow_lit w5 #[.string S, .string ⟨#[65]⟩, .string ⟨#[49]⟩, .string ⟨#[]⟩] 4 (Nat.le_refl _) (by decide) rfl
      have hini : S3.StrsIn (w5.alloc (.cells #[.string S, .string ⟨#[65]⟩, .string ⟨#[49]⟩, .string ⟨#[]⟩] 9)) (fun b => w5.heap.size ≤ b ∧ b < (w5.alloc (.cells #[.string S, .string ⟨#[65]⟩, .string ⟨#[49]⟩, .string ⟨#[]⟩] 9)).heap.size) (some ⟨w5.heap.size, 0, none⟩) (limF i) := by
        obtain ⟨A9, c9, hve, _, _, hini⟩ := hrowi.strsIn
        have e9 : some (⟨w5.heap.size, 0, none⟩ : Addr) = A9 := by injection hve
        rw [e9]
        exact hini
      have hnew := one_new (w5.alloc (.cells #[.string S, .string ⟨#[65]⟩, .string ⟨#[49]⟩, .string ⟨#[]⟩] 9)) (.slice (some ⟨w5.heap.size, 0, none⟩) 4 4) 40
      rw [show (w5.alloc (.cells #[.string S, .string ⟨#[65]⟩, .string ⟨#[49]⟩, .string ⟨#[]⟩] 9)).heap.size = w5.heap.size + 1 by simp] at hnew
      have hrow2 := hk6.f
      rw [hLl.out] at hrow2
      have HNEW := hid hnew
      have HK6 := hid hk6
      have HINI := hid hini
      have HROW2 := hid hrow2
      have HC3 : Hid (j + 1 ≤ maxLen) := hid (by unfold maxLen; omega)
      have HC4 : Hid ((j + 1) * 24 ≤ 140737488355328) := hid (by omega)
      have HC5 : Hid (∀ o : Obj, w.heap.size ≤ ((w5.alloc (.cells #[.string S, .string ⟨#[65]⟩, .string ⟨#[49]⟩, .string ⟨#[]⟩] 9)).alloc o).heap.size) := hid (fun o => by have := HK5.out.b.size; simp; omega)
      clear hb1 hk6 hrowi hini hnew hrow2
      go_wp2_with (at_builtin; refine wpList_append_own_at _ rfl _ _ 28 rfl w.heap.size 40 iS (.slice none 0 0) 1 24 Tryz.underlying28 hiS hzS hsS hbS rfl (by decide) (.slice A2 j c2) j (L.map rowV) rfl (World.ownsRow.alloc HROW2.out _) ⟨w5.heap.size + 1, 0, none⟩ 1 1 [.slice (some ⟨w5.heap.size, 0, none⟩) 4 4] rfl rfl HNEW.out (one_slice _ _ _) HC3.out HC4.out (HC5.out _) ?_)
      intro v' w7 hown hgrow _ hat
      obtain ⟨g2, k2, rfl⟩ := S3.row_slice hown
      have hw5 := HK5.out.b.size
      have HK7 := hid (KLM.app2 (l := limF i) (c := 4) (C := w5.heap.size) (HK6.out.next ((Below.refl _ _).alloc (Nat.le_refl _) (.cells #[.slice (some ⟨w5.heap.size, 0, none⟩) 4 4] 40))) hw5 (fun k hk => (World.ownsRow.lt HK5.out.r k hk).2) (fun k hk => (World.ownsRow.lt HK5.out.f k hk).2) ((HINI.out.kept (fun k hk => heap_alloc_old _ _ hk.2)).mono (fun k hk => ⟨hk.1, by simp at hk ⊢; omega⟩)) (show (limF i).length ≤ 4 from Nat.le_refl 4) (by decide) (hgrow) (by rw [hLl.out]; exact hown) (hat.imp id (fun h => ⟨_, h, by simp⟩)))
      clear hown hgrow hat HK5 HK6 HINI HROW2 HC3 HC4 HC5 HNEW hw5
      go_wp2
      go_roundw
      case rel => exact ⟨i - 1, j + 1, P ++ [(limR i, none, 0)], _, _, _, _, _, rfl, rfl, by congr 1; omega, by omega, hid (by rw [List.length_append, hPl.out]; rfl), hid (by rw [List.length_append, hLl.out]; rfl), hid (by rw [List.map_append, hP.out, limL_snoc, show top - j = i by omega]; rfl), hid (fun p hp => by
        rcases List.mem_append.1 hp with hp | hp
        · exact hPn.out p hp
        · rw [List.mem_singleton] at hp
          subst hp
          exact ⟨rfl, rfl⟩), hid (by rw [List.map_append, hL.out, limG_snoc, show top - j = i by omega]; rfl), HK7⟩
      case measure => simp [RowKit.intOf]; omega
    · have hqz : ¬ (0 : Int) < (i : Int) := by omega
      obtain rfl : j = top := by omega
      have hrr := hK.out.rows
      obtain ⟨A2', c2', hv2, _, _, hri⟩ := hrr.rowsIn
      rw [hL.out] at hri
      have hv2' : A2 = A2' := by injection hv2
      subst hv2'
      obtain ⟨A1', c1', hv1, _, _, hqi⟩ := (hK.out.reqs hP.out hPn.out).reqsIn
      have hv1' : A1 = A1' := by injection hv1
      subst hv1'
      have HRI := hid (hri.mono (P' := fun k => k < wr.heap.size) (fun k hk => hk.2))
      have HQI := hid (hqi.mono (P' := fun k => k < wr.heap.size) (fun k hk => by rcases hk with h | h; exact h; exact h.2))
      have HB := hid hK.out.b
      clear hrr hri hqi hv1 hv2 hK
      go_wp2_with fail
      refine (HP.out wr A2 c2 HRI.out).mono ?_
      rintro e w7 ⟨⟨A7, c7, rfl, hrc⟩, hb7⟩
      have HB7 := hid (HB.out.trans (hb7.mono HB.out.size))
      have HRC := hid hrc
      have HQ7 := hid ((HQI.out.below hb7).mono (P' := fun k => k < w7.heap.size) (fun k hk => Nat.lt_of_lt_of_le hk hb7.size))
      clear hrc hb7 HB HQI HRI HP
      go_wp2_with fail
      refine (HEX.out w7 A1 c1 A7 c7 HB7.out HQ7.out HRC.out).mono ?_
      rintro e w8 ⟨rfl, hb8⟩
      have HB8 := hid (HB7.out.trans (hb8.mono HB7.out.size))
      clear hb8 HB7 HQ7 HRC
      go_wp2
      go_ret
      exact ⟨rfl, HB8.out⟩
end Go.Proofs.YtdpfpkhbcdefmaaGreatDoor.S12

