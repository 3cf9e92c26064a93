/-
  Entries out of records: the program's Read of package entries, at curricula. Conditions: the records lie below the map's block; what the closure reads stands.
  The program's Read of curriculum. Conditions: the variables hold what their text lays; the records lie in memory, their fields below 2^32 bytes.
  Whether two classes are parallel: by the program, by the specification. No condition.
  Single classes and pairs, as mathematics. No program.
  Whether a class is single, by the program: isSingle, its closure, slices.ContainsFunc and IndexFunc at it. Conditions: the classes lie in memory.
-/
import Derived.Test.YtpaejkhaiifgdaaGreatDoorGN01
import Derived.Test.YtpaejkhaiifgdaaGreatDoorGN02
import Derived.Test.YtpaejkhaiifgdaaGreatDoorGN03
import Derived.Test.YtpaejkhaiifgdaaGreatDoorGN04
import Derived.Test.YtpaejkhaiifgdaaGreatDoorGN06
import Derived.Test.YtpaejkhaiifgdaaGreatDoorGN07
import Derived.Test.YtpaejkhaiifgdaaGreatDoorGN08
import Derived.Test.YtpaejkhaiifgdaaGreatDoorGN09
import Derived.Test.YtpaejkhaiifgdaaGreatDoorProg
import Derived.WalkKit
import Derived.WalkSpells
import Derived.WalkLawsBesides
import Derived.Lib.Hide
import Derived.Deep.QuietTactic
import Derived.BigQuiet
import Derived.Laws.Rows
import Derived.OwnWalk
import Derived.Lib.BufferWrite
import Derived.Lib.UnsafeStr
import Derived.Laws.IdiomStrings
import Derived.Laws.BytesArg
import Derived.Laws.BytesString
import Derived.Laws.OwnMore
import Derived.Lib.IndexLaws
import Derived.Lib.ItoaNum
import Derived.Lib.Atoi
import Derived.Lib.Bytealg
import Derived.RangeFuncNested
import Derived.RangeFuncBound
import Derived.RangeFuncCalls
import Derived.RangeFuncLeaves
import Derived.Shelf.Abstract
import Derived.Shelf.RegionOpen
import Derived.OwnWalkIn
import Derived.Lib.SlTrimSet
import Derived.Shelf.Strings.Builder1
import Derived.Shelf.Strings.Builder2
import Derived.Shelf.Strings.OnBuilder
import Derived.Shelf.Strings.Trim
import Derived.Shelf.Small.Utf8
import Derived.Shelf.Small.Strs
import Derived.Shelf.Strings.BuilderF
import Derived.Shelf.Strings.BuilderK
import Derived.Shelf.Strings.Builder2Cap
import Derived.Shelf.Strconv.Atoi
import Derived.Shelf.Strconv.Itoa0
import Derived.Shelf.Strconv.Itoa1
import Derived.Shelf.LaysM
import Derived.Shelf.Strconv.Itoa2
import Derived.Shelf.Strconv.Itoa3
import Derived.Shelf.Strconv.AtoiErrFast
import Derived.Shelf.Strconv.ParseIntEmpty
import Derived.Shelf.Strconv.AtoiFail
import Derived.Shelf.Strconv.Clone
import Derived.Shelf.Strconv.SyntaxError
import Derived.Shelf.LaysC
import Derived.Shelf.Strconv.ToError
import Derived.Shelf.Strconv.AtoiErr
import Derived.Shelf.Strings.Search1
import Derived.Shelf.Strings.Search2
import Derived.Shelf.Strings.Search3
import Derived.Shelf.Strings.Cut
import Derived.Shelf.Strings.Shaped
import Derived.Shelf.Strings.Prefix
import Derived.Shelf.Strings.Runes
import Derived.Shelf.Strings.AsciiSet
import Derived.Shelf.Bits.Mul64
import Derived.Shelf.Strings.Repeat
import Derived.Shelf.Unicode.DecodeSlow
import Derived.Shelf.Strings.BuilderCap
import Derived.Shelf.Slices.Turned
import Derived.Shelf.Strings.SlTrimAscii
import Derived.Lib.AtoiErrMem
import Derived.Handy
import Derived.Laws.ResultCell
import Derived.RegionTactic
import Derived.Lib.Repeat
import Derived.Deep.RegionHeld3
import Derived.Lib.SlicesS
import Derived.TacticsInMore
import Derived.LoopNIn
import Derived.LoopIn
import Derived.Maps.OwnSet
import Derived.Maps.Range
import Derived.Deep.RegionLaw
import Derived.Deep.DeepCutAuto
import Derived.Lib.Join
import Derived.Laws.Concat
import Derived.Deep.CutBlock
set_option linter.unusedVariables false
namespace Go.Proofs.YtpaejkhaiifgdaaGreatDoor.S11
open Go Go.Proofs Go.RowKit Go.Lib Go.Proofs.YtpaejkhaiifgdaaGreatDoor

set_option maxHeartbeats 16000000 in
set_option maxRecDepth 100000 in
theorem entries_any (A : Option Addr) (l : List RecD) (c M KB AB MB : Nat) (w : World) (hM : M < w.heap.size) (h : RecsIn w (fun k => k < M) A l) (hl : l.length ≤ 1073741824)
    (hsz : ∀ x ∈ l, ∀ f ∈ x.2, f.1.length < 4294967281) (hE : ∀ W, Below M w W → S3.Env W) (hC : CK KB AB MB M w) (hK : KMap w M []) :
    Calls Tryz.prog 35 #[.slice A l.length c, .int .i64 2, .func (.func 36) #[] #[], .func (.func 57) #[] #[.pointer (some ⟨KB, 0, none⟩), .pointer (some ⟨AB, 0, none⟩), .pointer (some ⟨MB, 0, none⟩)]] w (EntsOut M (recsM l) w) := by
  obtain ⟨i4, hi4, hz4, hs4, hb4⟩ := info_parts infoProb
  obtain ⟨i5, hi5, hz5, hs5, hb5⟩ := info_parts infoCurr
  have ea : ∀ args w, (callFunc 57 args).run Tryz.prog w = .ok (.enter 57 args) w := enters_of Tryz.func57 (by kernel_rfl) rfl
  have hI0 := EInv.start (M := M) hK
  have HH := hid h
  have HSZ := hid hsz
  have HE := hid hE
  have HC := hid hC
  have HI0 := hid hI0
  clear h hsz hE hC hK hI0
  unfold EntsOut
  go_enter Tryz.func35, Tryz.ntmps35
  go_wp2
  go_loopw [10, 11, 13, 19] (fun u1 u2 _ iv wr => ∃ (i : Nat) (A1 : Option Addr) (n1 c1 : Nat) (A2 : Option Addr) (n2 c2 : Nat), u1 = .slice A1 n1 c1 ∧ u2 = .slice A2 n2 c2 ∧ iv = .int .i64 (i : Int) ∧ i ≤ l.length ∧ Hid (EInv M w (recsM (l.take i)).1 (recsM (l.take i)).2 (codesU (recsM (l.take i)).1) (.slice A1 n1 c1) (.slice A2 n2 c2) wr)) (fun _ _ _ iv _ => l.length - (RowKit.intOf iv).toNat)
  case atStart => exact ⟨0, _, _, _, _, _, _, rfl, rfl, rfl, Nat.zero_le _, hid HI0.out⟩
  case round =>
    obtain ⟨i, A1, n1, c1, A2, n2, c2, rfl, rfl, rfl, hi, hI⟩ := hrel
    have hMs : M < wr.heap.size := hI.out.map.lt
    obtain ⟨Lr0, hL0, ho0, hr0⟩ := hI.out.row
    have hlt1 : ∀ k, (Value.slice A1 n1 c1).ownBlock = some k → k < wr.heap.size := fun k e => (own_lt ho0 k e).2
    have hlt2 : ∀ k, (Value.slice A2 n2 c2).ownBlock = some k → k < wr.heap.size := fun k e => (own_lt hI.out.probs k e).2
    have HL1 := hid hlt1
    have HL2 := hid hlt2
    have HMS := hid hMs
    have hws := (hI.out.below hM).size
    have HWS := hid hws
    clear hL0 ho0 hr0 hlt1 hlt2 hMs hws
    by_cases hlt : i < l.length
    · have hltz : (i : Int) < (l.length : Int) := by omega
      obtain ⟨fb, fo, A', c', rfl, hfb, hfi, hc1, hc2, y0, y1⟩ := HH.out.at_ hlt
      have kc : ∀ o : Nat, wr.cell? ⟨fb, o, none⟩ = w.cell? ⟨fb, o, none⟩ := fun o => (hI.out.below hM).cell (p := ⟨fb, o, none⟩) hfb
      rw [← kc] at y0 y1
      have hst := recsM_take l i hlt
      have hrl := recsM_len (l.take i)
      have hpl := recsM_probs (l.take i)
      rw [List.length_take] at hpl
      have hszi := HSZ.out _ (List.getElem_mem hlt)
      obtain ⟨⟨rs, ps⟩, hst0⟩ : ∃ S, recsM (l.take i) = S := ⟨_, rfl⟩
      rw [hst0] at hst hrl hpl hI
      obtain ⟨⟨line, fs⟩, hx⟩ : ∃ X, l[i] = X := ⟨_, rfl⟩
      rw [hx] at hfi hc1 y0 y1 hst hszi
      dsimp only at hfi hc1 y0 y1 hst hszi hrl hpl hI
      obtain ⟨F, hF⟩ : ∃ F, fs.length = F := ⟨_, rfl⟩
      have hw1 := (Below.refl wr.heap.size wr).alloc (Nat.le_refl _) (.cells #[.int .i64 line, .slice A' F c'] 27)
      have e1 := heap_alloc_new wr (.cells #[.int .i64 line, .slice A' F c'] 27)
      have hs1 : (wr.alloc (.cells #[.int .i64 line, .slice A' F c'] 27)).heap.size = wr.heap.size + 1 := by simp
      have x0 : (wr.alloc (.cells #[.int .i64 line, .slice A' F c'] 27)).cell? ⟨wr.heap.size, 0, none⟩ = some (.int .i64 line) := by rw [Lib.cell_of_heap e1]; rfl
      have x1 : (wr.alloc (.cells #[.int .i64 line, .slice A' F c'] 27)).cell? ⟨wr.heap.size, 1, none⟩ = some (.slice A' F c') := by rw [Lib.cell_of_heap e1]; rfl
      have hMw1 : Below M w (wr.alloc (.cells #[.int .i64 line, .slice A' F c'] 27)) := (hI.out.below hM).trans (hw1.mono (Nat.le_of_lt HMS.out))
      have hGw1 : w.grownBy (wr.alloc (.cells #[.int .i64 line, .slice A' F c'] 27)) (some M) := grown_under hI.out.gr hw1
      have cE := readEntry_any A' fs c' M (wr.alloc (.cells #[.int .i64 line, .slice A' F c'] 27)) (by rw [hs1]; have := HMS.out; omega) (hfi.below hMw1) hc1 hc2
        (fun W R j x r q hb hR hj hf hX hR' => by
          obtain ⟨f, hf1, rfl⟩ := hf
          have q1 := HE.out W (hMw1.trans (hb.mono (by rw [hs1]; have := HMS.out; omega)))
          exact readField_any f.1 r q R W hX hR' q1 (hszi f hf1) j hj)
      rw [hF] at cE y1
      unfold EntryOut at cE
      obtain ⟨⟨r, col, e0⟩, hen⟩ : ∃ S, entryM fs = S := ⟨_, rfl⟩
      have hrec : recM (rs, ps) (line, fs) = if e0 ≠ 0 then (rs, ps ++ [(line, col, e0)]) else if addC rs r.1 ≠ 0 then (rs, ps ++ [(line, col, addC rs r.1)]) else (rs ++ [r], ps) := by unfold recM; rw [hen]
      rw [hrec] at hst
      rw [hen] at cE
      have CE := hid cE
      have HST := hid hst
      have HI := hid hI.out
      have HE1 := hid e1
      have HW1 := hid hw1
      have HS1 := hid hs1
      have HX := hid hx
      have HST0 := hid hst0
      have HFI := hid hfi
      have HSZI := hid hszi
      have HEN := hid hen
      clear hst hst0 hI e1 hw1 hs1 hx hfi hszi hen hrec kc cE hMw1 hGw1 hF
      go_wp2_with fail
      generalize wr.alloc (.cells #[.int .i64 line, .slice A' F c'] 27) = w1 at CE HE1 HW1 HS1 x0 x1 ⊢
      refine CE.out.mono ?_
      rintro e w2 ⟨⟨q, rfl, hroom⟩, hb2⟩
      have hrl1 : r.1.length < 4294967281 := by
        have := entryM_code 4294967281 (by omega) fs HSZI.out
        rw [HEN.out] at this
        exact this
      have hcsz : (ba r.1).size ≤ maxLen := by rw [Lib.size_eq]; show r.1.length ≤ maxLen; unfold maxLen; omega
      have hcl : (codesU rs).length ≤ 16 := by simpa [codesU] using hrl
      have hvs : currV r q = .agg #[.string (ba r.1), .slice q.1 r.2.length q.2] := rfl
      rw [hvs]
      have hw3 := (Below.refl w2.heap.size w2).alloc (Nat.le_refl _) (.cells #[.string (ba r.1), .slice q.1 r.2.length q.2] 41)
      have hB5 := Box2.new w2 (.string (ba r.1)) (.slice q.1 r.2.length q.2)
      have hs3 : (w2.alloc (.cells #[.string (ba r.1), .slice q.1 r.2.length q.2] 41)).heap.size = w2.heap.size + 1 := by simp
      obtain ⟨w3, hw3e⟩ : ∃ w3, w2.alloc (.cells #[.string (ba r.1), .slice q.1 r.2.length q.2] 41) = w3 := ⟨_, rfl⟩
      rw [hw3e] at hw3 hB5 hs3
      have hb13 : Below wr.heap.size wr w3 := HW1.out.trans ((hb2.mono (by rw [HS1.out]; omega)).trans (hw3.mono (by have := hb2.size; have := HW1.out.size; omega)))
      have hI3 := HI.out.under hM hb13
      have hroom3 : CurrIn w3 (fun k => w1.heap.size ≤ k ∧ k < w3.heap.size) r q := (hroom.kept (fun k hk => hw3.block k hk.2)).mono (fun k hk => ⟨hk.1, by omega⟩)
      have x03 : w3.cell? ⟨wr.heap.size, 0, none⟩ = some (.int .i64 line) := by
        rw [hw3.cell (p := ⟨wr.heap.size, 0, none⟩) (by have := hb2.size; have := HS1.out; show wr.heap.size < w2.heap.size; omega), hb2.cell (p := ⟨wr.heap.size, 0, none⟩) (by have := HS1.out; show wr.heap.size < w1.heap.size; omega)]
        exact x0
      have hz3 : wr.heap.size < w3.heap.size := by have := hb2.size; have := HS1.out; omega
      have HI3 := hid hI3
      have HR3 := hid hroom3
      have HB5 := hid hB5
      have HZ3 := hid hz3
      have HS3 := hid hs3
      have HZ2 := hid hb2.size
      clear hI3 hroom3 hB5 hb13 hw3 hroom hb2 x0 x1 hvs hz3 hs3
      by_cases he : e0 = 0
      · subst he
        have hst := HST.out
        rw [if_neg (by simp)] at hst
        have hac := addM_codes rs r.1
        have hD3 := (HC.out.grown HI3.out.gr).d
        have cA := fun W (h : KMap W M (codesU rs)) (hd : DistIn W KB AB MB M) => dist_any KB AB MB M (codesU rs) (ba r.1) q.1 r.2.length q.2 hcl hcsz W hd h
        have cA3 := cA w3 HI3.out.map hD3
        unfold AddOutK at cA3
        rw [lst_ba, hac.1, hac.2] at cA3
        obtain ⟨e1, he1⟩ : ∃ e1, addC rs r.1 = e1 := ⟨_, rfl⟩
        rw [he1] at cA3 hst
        have CA := hid cA3
        obtain ⟨y0', y1'⟩ := HB5.out.cells
        clear cA cA3 hac hD3
        by_cases he2 : e1 = 0
        · subst he2
          rw [if_neg (by simp)] at hst
          have HSTF := hid hst
          clear hst
          go_wp2_with fail
          refine CA.out.mono ?_
          rintro e w4 ⟨rfl, hk4, hg4⟩
          rw [if_pos trivial] at hk4
          have hk4' : KMap w4 M (codesU (rs ++ [r])) := by simpa [codesU] using hk4
          have hI4 := HI3.out.past hM hg4 hk4'
          have hM3 := (HI3.out.below hM).size
          have hMw : M < w3.heap.size := HI3.out.map.lt
          have hB54 := HB5.out.kept (hg4.block w2.heap.size (by have := HS3.out; omega) (fun e => by injection e; have := HI.out.map.lt; have := HZ2.out; have := HS1.out; omega))
          have hR4 : CurrIn w4 (fun k => w1.heap.size ≤ k ∧ k < w4.heap.size) r q := (HR3.out.kept (fun k hk => hg4.block k hk.2 (fun e => by injection e; have := HI.out.map.lt; have := HS1.out; have := hk.1; omega))).mono (fun k hk => ⟨hk.1, Nat.lt_of_lt_of_le hk.2 hg4.size⟩)
          obtain ⟨Lr0, hL0, ho0, hr0⟩ := hI4.row
          have HRR := hid hr0
          have hz4 : wr.heap.size < w4.heap.size := Nat.lt_of_lt_of_le HZ3.out hg4.size
          have hrz : rs.length = n1 := by
            have hl0 : Lr0.length = rs.length := by rw [← hL0, List.length_map]
            rcases ho0.2 with ⟨hv, h0⟩ | ⟨g, cap, cur, hv, _⟩
            · injection hv with _ h1 _; omega
            · injection hv with _ h1 _; omega
          have hl0 : Lr0.length = n1 := by rw [← hrz, ← hL0, List.length_map]
          rw [hl0] at ho0
          have HMX : Hid (n1 + 1 ≤ maxLen) := hid (by unfold maxLen; omega)
          have HBY : Hid ((n1 + 1) * 40 ≤ 140737488355328) := hid (by omega)
          have HO0 := hid ho0
          have HL0 := hid hL0
          have HLL0 := hid hl0
          have HRZ := hid hrz
          have HI4 := hid hI4
          have HR4 := hid hR4
          have HN5 : Hid (∀ (j : Nat) (u : Value), (currVs r q)[j]? = some u → (w4.alloc (.cells #[.string (ba r.1), .slice q.1 r.2.length q.2] 41)).cell? ((⟨w4.heap.size, 0, none⟩ : Addr).add j) = some u) := hid (two_new w4 r q)
          have HON : Hid (∀ u ∈ currVs r q, u.oneCell' = true) := hid (curr_one r q)
          have HW4S : Hid (w.heap.size ≤ (w4.alloc (.cells #[.string (ba r.1), .slice q.1 r.2.length q.2] 41)).heap.size) := hid (by have := HWS.out; simp; omega)
          obtain ⟨z0', z1'⟩ := hB54.cells
          clear hr0 hI4 hR4 hB54 hk4 hk4' hg4 ho0 hL0 hl0 hM3 hMw hrz y0' y1'
          go_wp2_with (at_builtin; refine wpList_append_own_at _ rfl _ _ 22 rfl w.heap.size 41 i5 (.agg #[.string ⟨#[]⟩, .slice none 0 0]) 2 40 Tryz.underlying22 hi5 hz5 hs5 hb5 rfl (by decide) _ n1 (currVals Lr0) rfl (World.ownsRow.alloc HO0.out _) ⟨w4.heap.size, 0, none⟩ 1 1 (currVs r q) rfl rfl HN5.out HON.out HMX.out HBY.out HW4S.out ?_)
          intro v' w5 hown' hgrow hnil hat
          obtain ⟨g', cap', rfl⟩ := ownsRow_succ (k := n1) hown'
          have hI5 := EInv.room (C := w1.heap.size) HI4.out hM HR4.out (by have := HWS.out; have := HS1.out; omega) (fun k e => by have := HL1.out k e; have := HS1.out; omega) (fun k e => by have := HL2.out k e; have := HS1.out; omega) HL0.out (by rw [HLL0.out]; exact HO0.out) HRR.out (v1' := .slice (some ⟨g', 0, none⟩) (n1 + 1) cap') (by rw [HLL0.out]; exact hown') (grownBy_of_alloc hgrow) (hat.imp id (fun h => ⟨_, h, by simp⟩))
          have HI5 : Hid (EInv M w (recsM (l.take (i + 1))).1 (recsM (l.take (i + 1))).2 (codesU (recsM (l.take (i + 1))).1) (.slice (some ⟨g', 0, none⟩) (n1 + 1) cap') (.slice A2 n2 c2) w5) := hid (by rw [HSTF.out]; exact hI5)
          clear hI5 hown' hgrow hnil hat
          go_wp2_with fail
          go_roundw
          case rel => exact ⟨i + 1, _, _, _, _, _, _, rfl, rfl, by go_num, by omega, HI5⟩
          case measure => simp [RowKit.intOf]; omega
        · rw [if_pos he2] at hst
          have HSTF := hid hst
          have HNE := hid he2
          clear hst
          go_wp2_with fail
          refine CA.out.mono ?_
          rintro e w4 ⟨rfl, hk4, hg4⟩
          rw [if_neg he2] at hk4
          have hI4 := HI3.out.past hM hg4 hk4
          have x04 : w4.cell? ⟨wr.heap.size, 0, none⟩ = some (.int .i64 line) := (World.cell?_of_block (w := w3) (hg4.block wr.heap.size HZ3.out (fun e => by injection e; have := HI.out.map.lt; omega))).trans x03
          have HI4 := hid hI4
          clear hI4 hk4 hg4 y0' y1'
          have hne2 : (e1 != 0) = true := by simpa using HNE.out
          have hpz : ps.length = n2 := by
            rcases HI4.out.probs.2 with ⟨hv, h0⟩ | ⟨g, cap, cur, hv, _⟩
            · injection hv with _ h1 _; omega
            · injection hv with _ h1 _; omega
          have HMX : Hid (n2 + 1 ≤ maxLen) := hid (by unfold maxLen; omega)
          have HBY : Hid ((n2 + 1) * 32 ≤ 140737488355328) := hid (by omega)
          have hprow : ProbsRow w4 w.heap.size (.slice A2 n2 c2) ps := HI4.out.probs
          unfold ProbsRow at hprow
          rw [hpz] at hprow
          have HPR := hid hprow
          have HN4 : Hid (∀ (j : Nat) (u : Value), (probVs (line, col, e1))[j]? = some u → (w4.alloc (.cells #[.int .i64 0, .int .i64 line, .int .i64 col, .int .i64 e1] 86)).cell? ((⟨w4.heap.size, 0, none⟩ : Addr).add j) = some u) := hid (four_new w4 0 line col e1 86)
          have HON : Hid (∀ u ∈ probVs (line, col, e1), u.oneCell' = true) := hid (times_one (0, line, col, e1))
          have HWZ := hid (HI4.out.below hM).size
          have HW3S : Hid (w.heap.size ≤ (w4.alloc (.cells #[.int .i64 0, .int .i64 line, .int .i64 col, .int .i64 e1] 86)).heap.size) := hid (by have := HWZ.out; simp; omega)
          clear hprow
          go_wp2_with (at_builtin; (try rw [hw3e]); refine wpList_append_own_at _ rfl _ _ 33 rfl w.heap.size 86 i4 (.agg #[.int .i64 0, .int .i64 0, .int .i64 0, .int .i64 0]) 4 32 Tryz.underlying33 hi4 hz4 hs4 hb4 rfl (by decide) _ n2 (probVals ps) rfl (World.ownsRow.alloc HPR.out _) ⟨w4.heap.size, 0, none⟩ 1 1 (probVs (line, col, e1)) rfl rfl HN4.out HON.out HMX.out HBY.out HW3S.out ?_)
          intro v' w5 hown' hgrow hnil hat
          obtain ⟨g', cap', rfl⟩ := ownsRow_succ (k := n2) hown'
          have hI5 := HI4.out.prob (p := (line, col, e1)) hM (v2' := .slice (some ⟨g', 0, none⟩) (n2 + 1) cap') (by unfold ProbsRow; rw [probVals_app, List.length_append, hpz]; simpa [probVals] using hown') (grownBy_of_alloc hgrow) (hat.imp id (fun h => ⟨_, h, by simp⟩))
          have HI5 : Hid (EInv M w (recsM (l.take (i + 1))).1 (recsM (l.take (i + 1))).2 (codesU (recsM (l.take (i + 1))).1) (.slice A1 n1 c1) (.slice (some ⟨g', 0, none⟩) (n2 + 1) cap') w5) := hid (by rw [HSTF.out]; exact hI5)
          clear hI5 hown' hgrow hnil hat
          go_wp2_with fail
          go_roundw
          case rel => exact ⟨i + 1, _, _, _, _, _, _, rfl, rfl, by go_num, by omega, HI5⟩
          case measure => simp [RowKit.intOf]; omega
      · have hst := HST.out
        rw [if_pos he] at hst
        have HSTF := hid hst
        clear hst
        have hne : (e0 == 0) = false := by simpa using he
        have HNE := hid he
        have hne2 : (e0 != 0) = true := by simpa using HNE.out
        have hpz : ps.length = n2 := by
          rcases HI3.out.probs.2 with ⟨hv, h0⟩ | ⟨g, cap, cur, hv, _⟩
          · injection hv with _ h1 _; omega
          · injection hv with _ h1 _; omega
        have HMX : Hid (n2 + 1 ≤ maxLen) := hid (by unfold maxLen; omega)
        have HBY : Hid ((n2 + 1) * 32 ≤ 140737488355328) := hid (by omega)
        have hprow : ProbsRow w3 w.heap.size (.slice A2 n2 c2) ps := HI3.out.probs
        unfold ProbsRow at hprow
        rw [hpz] at hprow
        have HPR := hid hprow
        have HN4 : Hid (∀ (j : Nat) (u : Value), (probVs (line, col, e0))[j]? = some u → (w3.alloc (.cells #[.int .i64 0, .int .i64 line, .int .i64 col, .int .i64 e0] 86)).cell? ((⟨w3.heap.size, 0, none⟩ : Addr).add j) = some u) := hid (four_new w3 0 line col e0 86)
        have HON : Hid (∀ u ∈ probVs (line, col, e0), u.oneCell' = true) := hid (times_one (0, line, col, e0))
        have HWZ := hid (HI3.out.below hM).size
        have HW3S : Hid (w.heap.size ≤ (w3.alloc (.cells #[.int .i64 0, .int .i64 line, .int .i64 col, .int .i64 e0] 86)).heap.size) := hid (by have := HWZ.out; simp; omega)
        clear hprow
        go_wp2_with (at_builtin; (try rw [hw3e]); refine wpList_append_own_at _ rfl _ _ 33 rfl w.heap.size 86 i4 (.agg #[.int .i64 0, .int .i64 0, .int .i64 0, .int .i64 0]) 4 32 Tryz.underlying33 hi4 hz4 hs4 hb4 rfl (by decide) _ n2 (probVals ps) rfl (World.ownsRow.alloc HPR.out _) ⟨w3.heap.size, 0, none⟩ 1 1 (probVs (line, col, e0)) rfl rfl HN4.out HON.out HMX.out HBY.out HW3S.out ?_)
        intro v' w5 hown' hgrow hnil hat
        obtain ⟨g', cap', rfl⟩ := ownsRow_succ (k := n2) hown'
        have hI5 := HI3.out.prob (p := (line, col, e0)) hM (v2' := .slice (some ⟨g', 0, none⟩) (n2 + 1) cap') (by unfold ProbsRow; rw [probVals_app, List.length_append, hpz]; simpa [probVals] using hown') (grownBy_of_alloc hgrow) (hat.imp id (fun h => ⟨_, h, by simp⟩))
        have HI5 : Hid (EInv M w (recsM (l.take (i + 1))).1 (recsM (l.take (i + 1))).2 (codesU (recsM (l.take (i + 1))).1) (.slice A1 n1 c1) (.slice (some ⟨g', 0, none⟩) (n2 + 1) cap') w5) := hid (by rw [HSTF.out]; exact hI5)
        clear hI5 hown' hgrow hnil hat
        go_wp2_with fail
        go_roundw
        case rel => exact ⟨i + 1, _, _, _, _, _, _, rfl, rfl, by go_num, by omega, HI5⟩
        case measure => simp [RowKit.intOf]; omega
    · have hltz : ¬ (i : Int) < (l.length : Int) := by omega
      rw [List.take_of_length_le (by omega)] at hI
      go_wp2
      go_ret2
      exact ⟨_, _, rfl, hI.out⟩
end Go.Proofs.YtpaejkhaiifgdaaGreatDoor.S11

set_option linter.unusedVariables false
namespace Go.Proofs.YtpaejkhaiifgdaaGreatDoor.S11
open Go Go.Proofs Go.RowKit Go.Lib Go.Proofs.YtpaejkhaiifgdaaGreatDoor

/-- What reading curricula leaves behind. -/
def ReadOut (o : List CurrD × List ProbD) (w : World) (e : Ending) (w' : World) : Prop :=
  ∃ v1 v2, e = .returned (.tuple #[v1, v2]) ∧ CurrRow w' w.heap.size (fun k => w.heap.size ≤ k ∧ k < w'.heap.size) v1 o.1 ∧ ProbsRow w' w.heap.size v2 o.2 ∧ Below w.heap.size w w'
theorem rowLowU {w : World} {e z n B B' : Nat} {v : Value} {xs : List Value} (h : w.ownsRow B e z v n xs) (hB : B' ≤ B) : w.ownsRow B' e z v n xs := by
  obtain ⟨h1, h2⟩ := h
  refine ⟨h1, ?_⟩
  rcases h2 with h2 | ⟨g, cap, cur, hv, hg, r⟩
  · exact .inl h2
  · exact .inr ⟨g, cap, cur, hv, Nat.le_trans hB hg, r⟩
set_option maxHeartbeats 16000000 in
set_option maxRecDepth 100000 in
theorem uread_any (A : Option Addr) (l : List RecD) (c : Nat) (w : World) (h : RecsIn w (fun k => k < w.heap.size) A l) (hl : l.length ≤ 1073741824)
    (hsz : ∀ x ∈ l, ∀ f ∈ x.2, f.1.length < 4294967281) (hE : S3.Env w) :
    Calls Tryz.prog 10 #[.slice A l.length c] w (ReadOut (recsM l) w) := by
  unfold ReadOut
  have HH := hid h
  have HE := hid hE
  have HSZ := hid hsz
  clear h hE hsz
  go_enter Tryz.func10, Tryz.ntmps10
  go_wp2_with fail
  refine (distinct_any w).mono ?_
  rintro e w2 ⟨KB, AB, MB, M, rfl, hD, hM, hM4, k1, k2, k3, hb2⟩
  have hrec : RecsIn w2 (fun k => k < M) A l := (HH.out.kept (fun k hk => hb2.block k hk)).mono (fun k hk => by omega)
  have cE := entries_any A l c M KB AB MB w2 hM.lt hrec hl HSZ.out
    (fun W hW => HE.out.below (hb2.trans (hW.mono hM4)))
    ⟨hD, k1, k2, k3⟩ hM
  unfold EntsOut at cE
  have CE := hid cE
  have HB2 := hid hb2
  have HM4 := hid hM4
  have HML := hid hM.lt
  clear cE hrec hM hD hM4 k1 k2 k3 hb2
  go_wp2_with fail
  refine CE.out.mono ?_
  rintro e w3 ⟨v1, v2, rfl, hi⟩
  have HI := hid hi
  clear hi
  go_wp2
  go_ret2
  obtain ⟨⟨Lr, hL, ho, hr⟩, hp, _, hb⟩ := HI.out
  have hw12 := HB2.out.size
  have hn : (recsM l).1.length = Lr.length := by rw [← hL, List.length_map]
  refine ⟨v1, v2, rfl, ⟨Lr, hL, ?_, fun p hp' => (hr p hp').mono (fun k hk => ⟨by omega, hk.2.1⟩)⟩, rowLowU hp (by omega), ?_⟩
  · rw [hn]
    exact rowLowU ho (by omega)
  · have h1 := HM4.out
    exact HB2.out.trans ((HI.out.below HML.out).mono (by omega))
end Go.Proofs.YtpaejkhaiifgdaaGreatDoor.S11

set_option linter.unusedVariables false
namespace Go.Proofs.YtpaejkhaiifgdaaGreatDoor.S10
open Go Go.Proofs Go.RowKit Go.Lib Go.Proofs.YtpaejkhaiifgdaaGreatDoor

def parB (a b : ClassD) : Bool := decide (a.course = b.course ∧ a.part = b.part)
theorem two_boxes (w : World) (a b : Array Value) :
    BoxC ((w.alloc (.cells a 65)).alloc (.cells b 65)) w.heap.size a ∧ BoxC ((w.alloc (.cells a 65)).alloc (.cells b 65)) (w.heap.size + 1) b ∧ Below w.heap.size w ((w.alloc (.cells a 65)).alloc (.cells b 65)) := by
  have hs : (w.alloc (.cells a 65)).heap.size = w.heap.size + 1 := by simp
  have h1 := BoxC.new w a
  have hb1 := (Below.refl w.heap.size w).alloc (Nat.le_refl _) (.cells a 65)
  generalize w.alloc (.cells a 65) = w1 at hs h1 hb1 ⊢
  have h2 := BoxC.new w1 b
  have hb2 := (Below.refl w1.heap.size w1).alloc (Nat.le_refl _) (.cells b 65)
  rw [hs] at h2
  exact ⟨h1.next hb2, h2, hb1.trans (hb2.mono (by omega))⟩
theorem beq_str (s t : Str) : ((ba s).toList == (ba t).toList) = decide (s = t) := by
  rw [Lib.toList_data, Lib.toList_data]
  show (s == t) = _
  rw [Bool.eq_iff_iff]; simp

set_option maxHeartbeats 4000000 in
set_option maxRecDepth 100000 in
theorem par_any (x x' : ClassD) (q q' : ClassA) (w : World) : Calls Tryz.prog 78 #[clsV x q, clsV x' q'] w (Says (.bool (parB x x')) w) := by
  obtain ⟨c0, c1, c2, len, pats, seats, feats, staff, starts⟩ := x
  obtain ⟨d0, d1, d2, len', pats', seats', feats', staff', starts'⟩ := x'
  unfold Says clsV parB
  dsimp only
  have e1 := beq_str c1 d1
  have e2 := beq_str c2 d2
  obtain ⟨U, hU⟩ : ∃ U, decide (c1 = d1) = U := ⟨_, rfl⟩
  obtain ⟨V, hV⟩ : ∃ V, decide (c2 = d2) = V := ⟨_, rfl⟩
  have hR : decide (c1 = d1 ∧ c2 = d2) = (U && V) := by rw [← hU, ← hV, Bool.decide_and]
  rw [hR]
  rw [hU] at e1
  rw [hV] at e2
  obtain ⟨h1, h2, hb⟩ := two_boxes w (clsArr ⟨c0, c1, c2, len, pats, seats, feats, staff, starts⟩ q) (clsArr ⟨d0, d1, d2, len', pats', seats', feats', staff', starts'⟩ q')
  unfold clsArr at h1 h2 hb
  dsimp only at h1 h2 hb
  obtain ⟨X1, hX1⟩ : ∃ X, ba c1 = X := ⟨_, rfl⟩
  obtain ⟨X2, hX2⟩ : ∃ X, ba c2 = X := ⟨_, rfl⟩
  obtain ⟨Y1, hY1⟩ : ∃ X, ba d1 = X := ⟨_, rfl⟩
  obtain ⟨Y2, hY2⟩ : ∃ X, ba d2 = X := ⟨_, rfl⟩
  rw [hX1, hY1] at e1
  rw [hX2, hY2] at e2
  rw [hX1, hX2] at h1 hb ⊢
  rw [hY1, hY2] at h2 hb ⊢
  obtain ⟨x0, x1, x2, x3, x4, x5, x6, x7, x8⟩ := h1.cells
  obtain ⟨y0, y1, y2, y3, y4, y5, y6, y7, y8⟩ := h2.cells
  have HB := hid hb
  clear hb h1 h2 hX1 hX2 hY1 hY2 hR hU hV
  cases U with
  | false =>
    go_enter Tryz.func78, Tryz.ntmps78
    go_wp2
    go_ret
    exact ⟨rfl, HB.out⟩
  | true =>
    go_enter Tryz.func78, Tryz.ntmps78
    go_wp2
    go_ret
    exact ⟨by first | rfl | (cases V <;> rfl), HB.out⟩

set_option maxHeartbeats 4000000 in
set_option maxRecDepth 100000 in
theorem rpar_any (x x' : ClassD) (q q' : ClassA) (w : World) : Calls Tryz.prog 30 #[clsV x q, clsV x' q'] w (Says (.bool (parB x x')) w) := by
  obtain ⟨c0, c1, c2, len, pats, seats, feats, staff, starts⟩ := x
  obtain ⟨d0, d1, d2, len', pats', seats', feats', staff', starts'⟩ := x'
  unfold Says clsV parB
  dsimp only
  have e1 := beq_str c1 d1
  have e2 := beq_str c2 d2
  obtain ⟨U, hU⟩ : ∃ U, decide (c1 = d1) = U := ⟨_, rfl⟩
  obtain ⟨V, hV⟩ : ∃ V, decide (c2 = d2) = V := ⟨_, rfl⟩
  have hR : decide (c1 = d1 ∧ c2 = d2) = (U && V) := by rw [← hU, ← hV, Bool.decide_and]
  rw [hR]
  rw [hU] at e1
  rw [hV] at e2
  obtain ⟨h1, h2, hb⟩ := two_boxes w (clsArr ⟨c0, c1, c2, len, pats, seats, feats, staff, starts⟩ q) (clsArr ⟨d0, d1, d2, len', pats', seats', feats', staff', starts'⟩ q')
  unfold clsArr at h1 h2 hb
  dsimp only at h1 h2 hb
  obtain ⟨X1, hX1⟩ : ∃ X, ba c1 = X := ⟨_, rfl⟩
  obtain ⟨X2, hX2⟩ : ∃ X, ba c2 = X := ⟨_, rfl⟩
  obtain ⟨Y1, hY1⟩ : ∃ X, ba d1 = X := ⟨_, rfl⟩
  obtain ⟨Y2, hY2⟩ : ∃ X, ba d2 = X := ⟨_, rfl⟩
  rw [hX1, hY1] at e1
  rw [hX2, hY2] at e2
  rw [hX1, hX2] at h1 hb ⊢
  rw [hY1, hY2] at h2 hb ⊢
  obtain ⟨x0, x1, x2, x3, x4, x5, x6, x7, x8⟩ := h1.cells
  obtain ⟨y0, y1, y2, y3, y4, y5, y6, y7, y8⟩ := h2.cells
  have HB := hid hb
  clear hb h1 h2 hX1 hX2 hY1 hY2 hR hU hV
  cases U with
  | false =>
    go_enter Tryz.func30, Tryz.ntmps30
    go_wp2
    go_ret
    exact ⟨rfl, HB.out⟩
  | true =>
    go_enter Tryz.func30, Tryz.ntmps30
    go_wp2
    go_ret
    exact ⟨by first | rfl | (cases V <;> rfl), HB.out⟩
end Go.Proofs.YtpaejkhaiifgdaaGreatDoor.S10

set_option linter.unusedVariables false
namespace Go.Proofs.YtpaejkhaiifgdaaGreatDoor.S11
open Go Go.Proofs Go.RowKit Go.Lib Go.Proofs.YtpaejkhaiifgdaaGreatDoor Go.Proofs.YtpaejkhaiifgdaaGreatDoor.S10

/-- Whether no other class of the list is parallel to the i-th one. -/
def singleB (l : List ClassD) (i : Nat) : Bool :=
  match l[i]? with
  | none => false
  | some x => !(l.take i).any (parB x) && !(l.drop (i + 1)).any (parB x)
theorem singleB_at {l : List ClassD} {i : Nat} (h : i < l.length) : singleB l i = (!(l.take i).any (parB l[i]) && !(l.drop (i + 1)).any (parB l[i])) := by
  unfold singleB; rw [List.getElem?_eq_getElem h]
theorem singleB_iff {l : List ClassD} {i : Nat} (h : i < l.length) : singleB l i = true ↔ ∀ k, ∀ hk : k < l.length, k ≠ i → parB l[i] l[k] = false := by
  rw [singleB_at h, Bool.and_eq_true, Bool.not_eq_true', Bool.not_eq_true', List.any_eq_false, List.any_eq_false]
  constructor
  · rintro ⟨h1, h2⟩ k hk hne
    rcases Nat.lt_or_gt_of_ne hne with hlt | hgt
    · have := h1 l[k] (by rw [List.mem_take_iff_getElem]; exact ⟨k, by omega, rfl⟩)
      simpa using this
    · have := h2 l[k] (by rw [List.mem_drop_iff_getElem]; exact ⟨k - (i + 1), by omega, by congr 1; omega⟩)
      simpa using this
  · intro h0
    refine ⟨fun x hx => ?_, fun x hx => ?_⟩
    · rw [List.mem_take_iff_getElem] at hx
      obtain ⟨k, hk, rfl⟩ := hx
      have := h0 k (by omega) (by omega)
      simpa using this
    · rw [List.mem_drop_iff_getElem] at hx
      obtain ⟨k, hk, rfl⟩ := hx
      have := h0 (i + 1 + k) (by omega) (by omega)
      simpa using this
/-- Whether a class is one that is attended. -/
def attB (cs : List Str) (l : List ClassD) (i : Nat) : Bool :=
  (match l[i]? with
  | none => false
  | some x => decide (x.course ∈ cs)) && singleB l i
theorem attB_at {cs : List Str} {l : List ClassD} {i : Nat} (h : i < l.length) : attB cs l i = (decide (l[i].course ∈ cs) && singleB l i) := by
  unfold attB; rw [List.getElem?_eq_getElem h]
def attL (cs : List Str) (l : List ClassD) : List Nat := (List.range l.length).filter (attB cs l)
/-- All pairs of a list of numbers, in order. -/
def pairsOf : List Nat → List StartD
  | [] => []
  | a :: r => r.map (fun k : Nat => ((a : Int), (k : Int))) ++ pairsOf r
def pairsM (cs : List Str) (l : List ClassD) : List StartD := pairsOf (attL cs l)
theorem pairsOf_len : ∀ L : List Nat, (pairsOf L).length ≤ L.length * L.length
  | [] => Nat.zero_le _
  | a :: r => by
    have := pairsOf_len r
    rw [pairsOf, List.length_append, List.length_map, List.length_cons, Nat.add_mul, Nat.mul_add]
    omega
theorem attL_len (cs : List Str) (l : List ClassD) : (attL cs l).length ≤ l.length := by
  unfold attL
  exact Nat.le_trans (List.length_filter_le _ _) (by simp)
theorem pairsM_len (cs : List Str) (l : List ClassD) (h : l.length ≤ 40) : (pairsM cs l).length ≤ 1600 := by
  have h1 := pairsOf_len (attL cs l)
  have h2 := attL_len cs l
  have h3 : (attL cs l).length * (attL cs l).length ≤ 40 * 40 := Nat.mul_le_mul (by omega) (by omega)
  unfold pairsM
  omega
theorem attL_step (cs : List Str) (l : List ClassD) (i : Nat) : (List.range (i + 1)).filter (attB cs l) = (List.range i).filter (attB cs l) ++ if attB cs l i = true then [i] else [] := by
  rw [List.range_succ, List.filter_append]
  cases h : attB cs l i <;> simp [h]
/-- Parts of a slice of classes. -/
theorem ClassesIn.take {w : World} {P : Nat → Prop} {A : Option Addr} {l : List ClassD} (h : ClassesIn w P A l) (n : Nat) : ClassesIn w P A (l.take n) := by
  rcases h with h | ⟨b, off, hA, hP, hc⟩
  · exact .inl (by rw [h, List.take_nil])
  · refine .inr ⟨b, off, hA, hP, fun j x hj => hc j x ?_⟩
    rw [List.getElem?_take] at hj
    split at hj
    · exact hj
    · simp at hj
theorem ClassesIn.drop {w : World} {P : Nat → Prop} {b off : Nat} {l : List ClassD} (h : ClassesIn w P (some ⟨b, off, none⟩) l) (n c : Nat) (hlc : l.length ≤ c) : ClassesIn w P (if c = n then some ⟨b, off, none⟩ else some ⟨b, off + n * 9, none⟩) (l.drop n) := by
  by_cases hn : n < l.length
  · rw [if_neg (by omega)]
    rcases h with h | ⟨b', off', hA, hP, hc⟩
    · subst h; simp at hn
    · injection hA with hA; injection hA with h1 h2
      subst h1 h2
      refine .inr ⟨b, off + n * 9, rfl, hP, fun j x hj => ?_⟩
      rw [List.getElem?_drop] at hj
      obtain ⟨q, h1, h2⟩ := hc _ _ hj
      refine ⟨q, h1, fun i v hv => ?_⟩
      have := h2 i v hv
      rwa [show off + n * 9 + j * 9 + i = off + (n + j) * 9 + i by omega]
  · exact .inl (List.drop_of_length_le (by omega))
end Go.Proofs.YtpaejkhaiifgdaaGreatDoor.S11

set_option linter.unusedVariables false
namespace Go.Proofs.YtpaejkhaiifgdaaGreatDoor.S11
open Go Go.Proofs Go.RowKit Go.Lib Go.Proofs.YtpaejkhaiifgdaaGreatDoor Go.Proofs.YtpaejkhaiifgdaaGreatDoor.S10

/-- What the closure sees: the list's box and the index's. -/
structure KS (LB IB M : Nat) (A : Option Addr) (l : List ClassD) (c i : Nat) (w : World) : Prop where
  cl : w.cell? ⟨LB, 0, none⟩ = some (.slice A l.length c)
  ci : w.cell? ⟨IB, 0, none⟩ = some (.int .i64 (i : Int))
  cc : ClassesIn w (fun k => k < M) A l
  lz : LB < w.heap.size
  iz : IB < w.heap.size
  m : M ≤ w.heap.size
theorem KS.next {LB IB M : Nat} {A : Option Addr} {l : List ClassD} {c i : Nat} {w w' : World} (h : KS LB IB M A l c i w) (k : Below w.heap.size w w') : KS LB IB M A l c i w' :=
  ⟨(k.cell (p := ⟨LB, 0, none⟩) h.lz).trans h.cl, (k.cell (p := ⟨IB, 0, none⟩) h.iz).trans h.ci, h.cc.kept (fun j hj => k.block j (Nat.lt_of_lt_of_le hj h.m)), Nat.lt_of_lt_of_le h.lz k.size, Nat.lt_of_lt_of_le h.iz k.size, Nat.le_trans h.m k.size⟩
/-- The same, and a class in a box. -/
structure KSB (w0 : World) (LB IB fb p n : Nat) (A : Option Addr) (c i : Nat) (x y : ClassD) (q q' : ClassA) (w : World) : Prop where
  cl : w.cell? ⟨LB, 0, none⟩ = some (.slice A n c)
  ci : w.cell? ⟨IB, 0, none⟩ = some (.int .i64 (i : Int))
  x : ClassAt w fb p x q
  y : ClassAt w w0.heap.size 0 y q'
  b : Below w0.heap.size w0 w
  lz : LB < w.heap.size
  iz : IB < w.heap.size
  fz : fb < w.heap.size
  yz : w0.heap.size < w.heap.size
theorem KSB.next {w0 w w' : World} {LB IB fb p n : Nat} {A : Option Addr} {c i : Nat} {x y : ClassD} {q q' : ClassA} (h : KSB w0 LB IB fb p n A c i x y q q' w) (k : Below w.heap.size w w') : KSB w0 LB IB fb p n A c i x y q q' w' :=
  ⟨(k.cell (p := ⟨LB, 0, none⟩) h.lz).trans h.cl, (k.cell (p := ⟨IB, 0, none⟩) h.iz).trans h.ci, h.x.kept (k.block _ h.fz), h.y.kept (k.block _ h.yz), h.b.trans (k.mono h.b.size), Nat.lt_of_lt_of_le h.lz k.size, Nat.lt_of_lt_of_le h.iz k.size, Nat.lt_of_lt_of_le h.fz k.size, Nat.lt_of_lt_of_le h.yz k.size⟩
set_option maxHeartbeats 8000000 in
set_option maxRecDepth 100000 in
theorem single1_any (LB IB M : Nat) (A : Option Addr) (l : List ClassD) (c i : Nat) (hi : i < l.length) (hl : l.length ≤ 40) (y : ClassD) (q' : ClassA) (w : World) (h : KS LB IB M A l c i w) :
    Calls Tryz.prog 77 #[clsV y q', .pointer (some ⟨LB, 0, none⟩), .pointer (some ⟨IB, 0, none⟩)] w (Says (.bool (parB l[i] y)) w) := by
  obtain ⟨fb, fo, q, rfl, hfb, _, hx⟩ := h.cc.at_ hi
  obtain ⟨x, hxe⟩ : ∃ x, l[i] = x := ⟨_, rfl⟩
  rw [hxe] at hx ⊢
  have hll : (i : Int) < (l.length : Int) := by omega
  have dk : decide (l.length ≤ i) = false := decide_eq_false (by omega)
  obtain ⟨N, hN⟩ : ∃ N, l.length = N := ⟨_, rfl⟩
  have hL := h.cl
  rw [hN] at hL hll dk
  have hb := (Below.refl w.heap.size w).alloc (Nat.le_refl _) (.cells (clsArr y q') 65)
  have hy := BoxC.new w (clsArr y q')
  unfold clsArr at hy hb
  have hyc := hy.cells
  have hk0 : KSB w LB IB fb (fo + i * 9) N (some ⟨fb, fo, none⟩) c i x y q q' (w.alloc (.cells #[.string (ba y.code), .string (ba y.course), .string (ba y.part), .int .i64 y.len, .slice q'.aP y.pats.length q'.cP, .int .i64 y.seats, .slice q'.aF y.feats.length q'.cF, .slice q'.aS y.staff.length q'.cS, .slice q'.aT y.starts.length q'.cT] 65)) :=
    ⟨(hb.cell (p := ⟨LB, 0, none⟩) h.lz).trans hL, (hb.cell (p := ⟨IB, 0, none⟩) h.iz).trans h.ci, hx.kept (hb.block _ (Nat.lt_of_lt_of_le hfb h.m)), ⟨hyc.1, hyc.2.1, hyc.2.2.1, hyc.2.2.2.1, hyc.2.2.2.2.1, hyc.2.2.2.2.2.1, hyc.2.2.2.2.2.2.1, hyc.2.2.2.2.2.2.2.1, hyc.2.2.2.2.2.2.2.2⟩, hb, Nat.lt_of_lt_of_le h.lz hb.size, Nat.lt_of_lt_of_le h.iz hb.size, Nat.lt_of_lt_of_le (Nat.lt_of_lt_of_le hfb h.m) hb.size, hy.lt⟩
  have cP := fun w => par_any x y q q' w
  unfold Says at cP ⊢
  unfold clsV at cP ⊢
  obtain ⟨R, hR⟩ : ∃ R, parB x y = R := ⟨_, rfl⟩
  rw [hR] at cP ⊢
  have CP : Hid (∀ W, KSB w LB IB fb (fo + i * 9) N (some ⟨fb, fo, none⟩) c i x y q q' W → Calls Tryz.prog 78 #[.agg #[.string (ba x.code), .string (ba x.course), .string (ba x.part), .int .i64 x.len, .slice q.aP x.pats.length q.cP, .int .i64 x.seats, .slice q.aF x.feats.length q.cF, .slice q.aS x.staff.length q.cS, .slice q.aT x.starts.length q.cT], .agg #[.string (ba y.code), .string (ba y.course), .string (ba y.part), .int .i64 y.len, .slice q'.aP y.pats.length q'.cP, .int .i64 y.seats, .slice q'.aF y.feats.length q'.cF, .slice q'.aS y.staff.length q'.cS, .slice q'.aT y.starts.length q'.cT]] W fun e w' => e = .returned (.bool R) ∧ KSB w LB IB fb (fo + i * 9) N (some ⟨fb, fo, none⟩) c i x y q q' w') := hid (fun W hW => (cP W).mono fun e w' ⟨he, hb⟩ => ⟨he, hW.next hb⟩)
  have HK0 := hid hk0
  clear hk0 hb hy hyc cP hR h hx hxe hN hL hfb
  go_enter Tryz.func77, Tryz.ntmps77
  go_upto_region 1 with fail
  have hk' := HK0.out
  clear HK0
  generalize World.alloc _ _ = wx at hk' ⊢
  go_region_held3 (fun w' => w'.cell? ⟨LB, 0, none⟩ = some (.slice (some ⟨fb, fo, none⟩) N c) ∧ w'.cell? ⟨IB, 0, none⟩ = some (.int .i64 (i : Int)) ∧ w'.cell? ⟨fb, fo + i * 9, none⟩ = some (.string (ba x.code)) ∧ w'.cell? ⟨fb, fo + i * 9 + 1, none⟩ = some (.string (ba x.course)) ∧ w'.cell? ⟨fb, fo + i * 9 + 2, none⟩ = some (.string (ba x.part)) ∧ w'.cell? ⟨fb, fo + i * 9 + 3, none⟩ = some (.int .i64 x.len) ∧ w'.cell? ⟨fb, fo + i * 9 + 4, none⟩ = some (.slice q.aP x.pats.length q.cP) ∧ w'.cell? ⟨fb, fo + i * 9 + 5, none⟩ = some (.int .i64 x.seats) ∧ w'.cell? ⟨fb, fo + i * 9 + 6, none⟩ = some (.slice q.aF x.feats.length q.cF) ∧ w'.cell? ⟨fb, fo + i * 9 + 7, none⟩ = some (.slice q.aS x.staff.length q.cS) ∧ w'.cell? ⟨fb, fo + i * 9 + 8, none⟩ = some (.slice q.aT x.starts.length q.cT) ∧ w'.cell? ⟨w.heap.size, 0, none⟩ = some (.string (ba y.code)) ∧ w'.cell? ⟨w.heap.size, 1, none⟩ = some (.string (ba y.course)) ∧ w'.cell? ⟨w.heap.size, 2, none⟩ = some (.string (ba y.part)) ∧ w'.cell? ⟨w.heap.size, 3, none⟩ = some (.int .i64 y.len) ∧ w'.cell? ⟨w.heap.size, 4, none⟩ = some (.slice q'.aP y.pats.length q'.cP) ∧ w'.cell? ⟨w.heap.size, 5, none⟩ = some (.int .i64 y.seats) ∧ w'.cell? ⟨w.heap.size, 6, none⟩ = some (.slice q'.aF y.feats.length q'.cF) ∧ w'.cell? ⟨w.heap.size, 7, none⟩ = some (.slice q'.aS y.staff.length q'.cS) ∧ w'.cell? ⟨w.heap.size, 8, none⟩ = some (.slice q'.aT y.starts.length q'.cT))
    (first | exact ⟨hk'.cl, hk'.ci, hk'.x.c0, hk'.x.c1, hk'.x.c2, hk'.x.c3, hk'.x.c4, hk'.x.c5, hk'.x.c6, hk'.x.c7, hk'.x.c8, hk'.y.c0, hk'.y.c1, hk'.y.c2, hk'.y.c3, hk'.y.c4, hk'.y.c5, hk'.y.c6, hk'.y.c7, hk'.y.c8⟩ | exact ⟨(hk'.next (Below.refl _ _).drew).cl, (hk'.next (Below.refl _ _).drew).ci, (hk'.next (Below.refl _ _).drew).x.c0, (hk'.next (Below.refl _ _).drew).x.c1, (hk'.next (Below.refl _ _).drew).x.c2, (hk'.next (Below.refl _ _).drew).x.c3, (hk'.next (Below.refl _ _).drew).x.c4, (hk'.next (Below.refl _ _).drew).x.c5, (hk'.next (Below.refl _ _).drew).x.c6, (hk'.next (Below.refl _ _).drew).x.c7, (hk'.next (Below.refl _ _).drew).x.c8, (hk'.next (Below.refl _ _).drew).y.c0, (hk'.next (Below.refl _ _).drew).y.c1, (hk'.next (Below.refl _ _).drew).y.c2, (hk'.next (Below.refl _ _).drew).y.c3, (hk'.next (Below.refl _ _).drew).y.c4, (hk'.next (Below.refl _ _).drew).y.c5, (hk'.next (Below.refl _ _).drew).y.c6, (hk'.next (Below.refl _ _).drew).y.c7, (hk'.next (Below.refl _ _).drew).y.c8⟩)
    (first
      | (go_at_call 78; refine (CP.out _ (hk'.next (Below.refl _ _).drew)).mono ?_; rintro e w' ⟨rfl, hk'⟩)
      | (go_at_call 78; refine (CP.out _ hk').mono ?_; rintro e w' ⟨rfl, hk'⟩))
  all_goals
    go_wp2
    go_ret
    exact ⟨rfl, hk'.b⟩
end Go.Proofs.YtpaejkhaiifgdaaGreatDoor.S11

