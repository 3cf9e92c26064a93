/-
  The library's stable sort, at requests: over a program of which the types and bodies alone are known. Conditions: as stated. Slices of structs that came in: .. Conditions: as stated.
-/
import Derived.Test.YtlgmanbilaminaaGreatDoorXN01
import Derived.Test.YtlgmanbilaminaaGreatDoorXN02
import Derived.Test.YtlgmanbilaminaaGreatDoorXN03
import Derived.Test.YtlgmanbilaminaaGreatDoorXN04
import Derived.Test.YtlgmanbilaminaaGreatDoorXN05
import Derived.Test.YtlgmanbilaminaaGreatDoorXN17
import Derived.Test.YtlgmanbilaminaaGreatDoorXN18
import Derived.Test.YtlgmanbilaminaaGreatDoorXN19
import Derived.Test.YtlgmanbilaminaaGreatDoorXN34
import Derived.Test.YtlgmanbilaminaaGreatDoorXN35
import Derived.Sort.WalkA
import Derived.Sort.LotA
import Derived.Shelf.SlSortCmp.Insertion
import Derived.Test.YtlgmanbilaminaaGreatDoorProg
import Derived.Shelf.SlSortCmp.KitK
import Derived.Lib.Hide
import Derived.Deep.LoopGhost
import Derived.Deep.DeepCutAuto
import Derived.WalkKit
import Derived.WalkSpells
import Derived.WalkLawsBesides
import Derived.Deep.QuietTactic
import Derived.BigQuiet
import Derived.Laws.Rows
import Derived.OwnWalk
import Derived.Lib.BufferWrite
import Derived.Lib.UnsafeStr
import Derived.Laws.IdiomStrings
import Derived.Laws.BytesArg
import Derived.Laws.BytesString
import Derived.Laws.OwnMore
import Derived.Lib.IndexLaws
import Derived.Lib.ItoaNum
import Derived.Lib.Atoi
import Derived.Lib.Bytealg
import Derived.Shelf.SlGeneric
import Derived.Shelf.SlSortCmp.NoneTotal
import Derived.Ground.SlsfProg
import Derived.Shelf.Strings.Builder1
import Derived.Shelf.Strings.Builder2
import Derived.Shelf.Strings.OnBuilder
import Derived.Shelf.Strings.Trim
import Derived.Shelf.Small.Utf8
import Derived.Shelf.Small.Bits
import Derived.Shelf.Small.Strs
import Derived.Shelf.Small.Wraps
import Derived.Shelf.Strings.BuilderF
import Derived.Shelf.Strings.BuilderK
import Derived.Shelf.Strings.Builder2Cap
import Derived.Shelf.Strconv.Atoi
import Derived.Shelf.Strconv.Itoa0
import Derived.Shelf.Strconv.Itoa1
import Derived.Shelf.LaysM
import Derived.Shelf.Strconv.Itoa2
import Derived.Shelf.Strconv.Itoa3
import Derived.Shelf.Strconv.AtoiErrFast
import Derived.Shelf.Strconv.ParseIntEmpty
import Derived.Shelf.Strconv.AtoiFail
import Derived.Shelf.Strconv.Clone
import Derived.Shelf.Strconv.SyntaxError
import Derived.Shelf.LaysC
import Derived.Shelf.Strconv.ToError
import Derived.Shelf.Strconv.AtoiErr
import Derived.Shelf.Strings.Search1
import Derived.Shelf.Strings.Search2
import Derived.Shelf.Strings.Search3
import Derived.Shelf.Strings.Cut
import Derived.Shelf.Strings.Shaped
import Derived.Shelf.Strings.Prefix
import Derived.Shelf.Strings.Runes
import Derived.Shelf.Strings.AsciiSet
import Derived.Shelf.Bits.Mul64
import Derived.Shelf.Strings.Repeat
import Derived.Shelf.Unicode.DecodeSlow
import Derived.Shelf.Strings.BuilderCap
import Derived.Shelf.Slices.Turned
import Derived.Ground.Names2Prog
import Derived.Shelf.Slices.Clone
import Derived.Shelf.SlSortCmp.SiftDown1
import Derived.Shelf.SlSortCmp.HeapSort1
import Derived.Shelf.SlSortCmp.Insertion1
import Derived.Shelf.SlSortCmp.Median1
import Derived.Shelf.SlSortCmp.Pivot1
import Derived.Shelf.SlSortCmp.ReverseRange1
import Derived.Shelf.SlSortCmp.PartialInsertion1
import Derived.Shelf.SlSortCmp.PartitionEqual1
import Derived.Shelf.SlSortCmp.Partition1
import Derived.Shelf.SlSortCmp.Pdq1
import Derived.Shelf.SlSortCmp.Whole1
import Derived.Deep.Slices
import Derived.Lib.SmallJoins
import Derived.Test.YtlgmanbilaminaaGreatDoorRows
set_option linter.unusedVariables false
namespace Go.Proofs.YtlgmanbilaminaaGreatDoor.S12
open Go Go.Proofs Go.RowKit Go.Lib Go.Sort Go.Shelf Go.Proofs.YtlgmanbilaminaaGreatDoor
variable {P : Program} {k : Nat} {α : Type} [Inhabited α] {enc : α → List Value} {key : α → Int} {blk off : Nat} {d0 : Array α} {w0 : World}
set_option maxHeartbeats 16000000 in
set_option maxRecDepth 1000000 in
theorem stable_k (K : PK P k) (FS : P.funcs[159]? = some Tryz.f159) (FR : P.funcs[139]? = some Tryz.f139) (FM : P.funcs[119]? = some Tryz.f119) (F : P.funcs[83]? = some Tryz.f83) (FI : P.funcs[118]? = some Tryz.f118) (g : Nat) (cb : Array Value) (cf : α → α → Int) (hcf : ∀ x y, cf x y < 0 ↔ key x < key y) (cap : Nat)
    (eg : ∀ args w, (callFunc g args).run P w = .ok (.enter g args) w) (hcmp : CmpLays P g cb enc k cf blk off d0.size w0) (R : RowK enc k w0 blk off d0) (d : Array α) (w : World) (hs : d0.size = d.size) (S : SWK enc k w0 blk off d w) (hsz : d.size < 1152921504606846976)
    (hI : ∀ (a b : Nat) (x : Array α) (wx : World), x.size = d.size → SWK enc k w0 blk off x wx → a ≤ b → b ≤ d.size → Calls P 118 #[.slice (some ⟨blk, off, none⟩) d.size cap, .int .i64 a, .int .i64 b, .func (.func g) #[] cb] wx fun e w' => e = .returned (.tuple #[]) ∧ ∃ y, y.size = d.size ∧ StabR key x y ∧ SortedK key a b y ∧ (∀ t, t < a → y[t]! = x[t]!) ∧ SWK enc k w0 blk off y w') :
    Calls P 83 #[.slice (some ⟨blk, off, none⟩) d.size cap, .int .i64 (d.size : Int), .func (.func g) #[] cb] w fun e w' => e = .returned (.tuple #[]) ∧ ∃ d', StabR key d d' ∧ SortedK key 0 d.size d' ∧ SWK enc k w0 blk off d' w' := by
  have mixed := K.mixed; have t3 := K.t3; have a3 := K.a3; have z3 := K.z3; have v3 := K.v3; have t4 := K.t4; have a4 := K.a4; have z4 := K.z4; have v4 := K.v4; have t22 := K.t22; have a22 := K.a22; have z22 := K.z22; have v22 := K.v22; have t123 := K.t123; have a123 := K.a123; have z123 := K.z123; have a85 := K.a85; have z85 := K.z85; have aE := K.aE; have zE := K.zE; have u3 := run_underlying K.t3; have u22 := run_underlying K.t22; have u123 := run_underlying K.t123
  have eM : ∀ args w, (callFunc 119 args).run P w = .ok (.enter 119 args) w := enters_of FM (by kernel_rfl) rfl
  have eI : ∀ args w, (callFunc 118 args).run P w = .ok (.enter 118 args) w := enters_of FI (by kernel_rfl) rfl
  have HC : Aside _ := hcmp
  have CF := hid hcf
  have K0 := hid K
  have HI := hid hI
  have S0 : Aside (SWK enc k w0 blk off d w) := S
  clear hcmp hcf hI S
  obtain ⟨n, hn⟩ : ∃ n, d.size = n := ⟨_, rfl⟩
  rw [hn] at hsz HI hs ⊢
  go_enter F, Tryz.ntmps83
  go_wp2
  go_loopg [7, 8] n (fun kx s7 s8 wr => ∃ (q A : Nat) (dk : Array α), s7 = .int .i64 A ∧ s8 = .int .i64 ((A : Int) + 20) ∧ A ≤ n ∧ n - A ≤ kx ∧ dk.size = n ∧ Aside (SWK enc k w0 blk off dk wr) ∧ Hid (A = q * 20 ∧ StabR key d dk ∧ ∀ j, j < q → SortedK key (j * 20) (j * 20 + 20) dk))
  case atStart => exact ⟨0, 0, d, rfl, by rfl, Nat.zero_le _, by omega, hn, S0, (show Hid _ from ⟨by omega, StabR.refl d, fun j hj => absurd hj (Nat.not_lt_zero _)⟩)⟩
  case round =>
    clear S0
    obtain ⟨q, A, dk, rfl, rfl, hA, hkx, hds, S1, HD⟩ := hrel
    by_cases hb : A + 20 ≤ n
    · have hbz : (A : Int) + 20 ≤ (n : Int) := by omega
      have hc := HI.out A (A + 20) dk wr hds S1.out (by omega) hb
      rw [show ((A + 20 : Nat) : Int) = (A : Int) + 20 by omega] at hc
      go_wp2_with (go_at_fn (118); refine hc.mono ?_; rintro e w1 ⟨rfl, y, hy1, hy2, hy3, hy4, S2⟩)
      go_roundg (n - (A + 20))
      case measure => omega
      case rel => exact ⟨q + 1, A + 20, y, by congr 1, by congr 1, hb, Nat.le_refl _, hy1, S2, (show Hid _ from ⟨by have := HD.out.1; omega, HD.out.2.1.trans hy2, fun j hj => by
        have e := HD.out.1
        by_cases c : j = q
        · rw [c, ← e]; exact hy3
        · exact (HD.out.2.2 j (by omega)).congr (fun t t1 t2 => hy4 t (by omega))⟩)⟩
    · have hbz : ¬ (A : Int) + 20 ≤ (n : Int) := by omega
      have hc := HI.out A n dk wr hds S1.out hA (Nat.le_refl _)
      go_wp2_with (go_at_fn (118); refine hc.mono ?_; rintro e w1 ⟨rfl, y, hy1, hy2, hy3, hy4, S2⟩)
      have hB : StabR key d y ∧ BlocksK key 20 n y := ⟨HD.out.2.1.trans hy2, by
        have e := HD.out.1
        refine blocks_first (k := q) (d := dk) hds.symm HD.out.2.2 (by omega) (by omega) (by rw [← e]; exact hy3) (fun t ht => hy4 t (by omega))⟩
      have HB := hid hB
      have S3 : Aside (SWK enc k w0 blk off y w1) := S2
      clear hB HD hy2 hy3 hy4 S1 S2
      go_loopg [6, 7, 8] n (fun kx s6 s7 s8 wr => ∃ (s : Nat) (dk : Array α), s6 = .int .i64 s ∧ 0 < s ∧ s ≤ 2 * n + 20 ∧ n - s ≤ kx ∧ dk.size = n ∧ Aside (SWK enc k w0 blk off dk wr) ∧ Hid (StabR key d dk ∧ BlocksK key s n dk))
      case atStart => exact ⟨20, y, by rfl, by omega, by omega, by omega, hy1, S3, HB⟩
      case round =>
        clear S3 HB hds hkx hA hbz hb hy1
        obtain ⟨s, dk, rfl, hs0, hs2, hkx, hds, S1, HB⟩ := hrel
        by_cases hsn : s < n
        · have hsz1 : (s : Int) < (n : Int) := by omega
          go_wp2
          go_loopg [7, 8] n (fun kx s7 s8 wr => ∃ (q A : Nat) (dj : Array α), s7 = .int .i64 A ∧ s8 = .int .i64 ((A : Int) + 2 * (s : Int)) ∧ A ≤ n ∧ n - A ≤ kx ∧ dj.size = n ∧ Aside (SWK enc k w0 blk off dj wr) ∧ Hid (A = q * (2 * s) ∧ StabR key d dj ∧ HalfK key s n q dj))
          case atStart => exact ⟨0, 0, dk, rfl, by congr 1; omega, Nat.zero_le _, by omega, hds, S1, (show Hid _ from ⟨by omega, HB.out.1, half_start HB.out.2⟩)⟩
          case round =>
            clear S1 HB hds
            obtain ⟨q, A, dj, rfl, rfl, hA, hkx2, hdj, S1, HD⟩ := hrel
            have hp : SortedK key A (min (A + s) n) dj ∧ SortedK key (A + s) (min (A + 2 * s) n) dj := by
              have := half_pre HD.out.2.2
              rw [← HD.out.1] at this
              exact this
            have HP := hid hp
            clear hp
            by_cases hb : A + 2 * s ≤ n
            · have hbz : (A : Int) + 2 * (s : Int) ≤ (n : Int) := by omega
              have h1 := HP.out.1
              have h2 := HP.out.2
              rw [Nat.min_eq_left (by omega)] at h1 h2
              have hc := symMerge_k K0.out FS FR FM g cb cf CF.out cap eg HC.out R (n + 1) A (A + s) (A + 2 * s) dj wr (by omega) (by omega) S1.out (by omega) (by omega) (by omega) (by omega) h1 h2
              rw [show ((A + s : Nat) : Int) = (A : Int) + (s : Int) by omega, show ((A + 2 * s : Nat) : Int) = (A : Int) + 2 * (s : Int) by omega, hdj] at hc
              clear h1 h2
              go_wp2_with (go_at_fn (119); refine hc.mono ?_; rintro e w1 ⟨rfl, y, hy, S2⟩)
              go_roundg (n - (A + 2 * s))
              case measure => omega
              case rel => exact ⟨q + 1, A + 2 * s, y, by first | rfl | (congr 1; omega), by first | rfl | (congr 1; omega), hb, Nat.le_refl _, by rw [hy.size]; exact hdj, S2, (show Hid _ from ⟨by rw [Nat.add_mul, Nat.one_mul, ← HD.out.1], HD.out.2.1.trans hy.stab, half_step HD.out.2.2 hdj.symm (by rw [← HD.out.1]; exact hb) (by rw [← HD.out.1]; exact hy)⟩)⟩
            · have hbz : ¬ (A : Int) + 2 * (s : Int) ≤ (n : Int) := by omega
              by_cases hm : A + s < n
              · have hmz : (A : Int) + (s : Int) < (n : Int) := by omega
                have h1 := HP.out.1
                have h2 := HP.out.2
                rw [Nat.min_eq_left (by omega)] at h1
                rw [Nat.min_eq_right (by omega)] at h2
                have hc := symMerge_k K0.out FS FR FM g cb cf CF.out cap eg HC.out R (n + 1) A (A + s) n dj wr (by omega) (by omega) S1.out (by omega) hm (by omega) (by omega) h1 h2
                rw [show ((A + s : Nat) : Int) = (A : Int) + (s : Int) by omega, hdj] at hc
                clear h1 h2
                go_wp2_with (go_at_fn (119); refine hc.mono ?_; rintro e w1 ⟨rfl, y, hy, S2⟩)
                go_roundg (n - 2 * s)
                case measure => omega
                case rel => exact ⟨2 * s, y, by congr 1; omega, by omega, by omega, Nat.le_refl _, by rw [hy.size]; exact hdj, S2, (show Hid _ from ⟨HD.out.2.1.trans hy.stab, half_end HD.out.2.2 hdj.symm (by rw [← HD.out.1]; omega) (by rw [← HD.out.1]; exact hA) (by rw [← HD.out.1]; exact hy)⟩)⟩
              · have hmz : ¬ (A : Int) + (s : Int) < (n : Int) := by omega
                have h1 := HP.out.1
                rw [Nat.min_eq_right (by omega)] at h1
                have H1 := hid h1
                clear h1
                go_wp2
                go_roundg (n - 2 * s)
                case measure => omega
                case rel => exact ⟨2 * s, dj, by congr 1; omega, by omega, by omega, Nat.le_refl _, hdj, S1, (show Hid _ from ⟨HD.out.2.1, half_end HD.out.2.2 hdj.symm (by rw [← HD.out.1]; omega) (by rw [← HD.out.1]; exact hA) (MergeOut.same (by rw [← HD.out.1]; exact H1.out))⟩)⟩
        · have hsz1 : ¬ (s : Int) < (n : Int) := by omega
          go_wp2
          (try simp only [Exit.inBlock, Exit.then]); refine bodyPost_end (results_none rfl _ _ _) rfl ?_
          exact ⟨rfl, dk, HB.out.1, blocks_all HB.out.2 (by omega), S1.out⟩
theorem said_all {n : Nat} (h : n < 1152921504606846976) : StableSaid n := fun blk cap d w hd hH hblk => by
  have eg : ∀ args w, (callFunc 51 args).run Tryz.prog w = .ok (.enter 51 args) w := enters_of Tryz.func51 (by kernel_rfl) rfl
  have R : RowK encP 4 w blk 0 d := ⟨encP_len, encP_one, hH, hblk⟩
  have hI : ∀ (a b : Nat) (x : Array ReqP) (wx : World), x.size = d.size → SWK encP 4 w blk 0 x wx → a ≤ b → b ≤ d.size → Calls Tryz.prog 118 #[.slice (some ⟨blk, 0, none⟩) d.size cap, .int .i64 a, .int .i64 b, .func (.func 51) #[] #[]] wx fun e w' => e = .returned (.tuple #[]) ∧ ∃ y, y.size = d.size ∧ StabR keyP x y ∧ SortedK keyP a b y ∧ (∀ t, t < a → y[t]! = x[t]!) ∧ SWK encP 4 w blk 0 y w' := fun a b x wx hx S hab hb => by
    obtain ⟨hp, ho⟩ := insertionSort_holds (swoK keyP) x a b hab (by omega)
    have hc := AnyQ.insertionSortCmpFunc Tryz.insReqs 4 Tryz.isAgg61 Tryz.sizeOf61 encP encP_len encP_one (cfK keyP) 51 #[] blk 0 cap a b x wx eg (cmpP _ _ _ _) (S.holds hblk hH hx) (S.lt hblk) hab (by omega) (by omega)
    rw [hx] at hc
    refine hc.mono ?_
    rintro e w' ⟨rfl, n, os, rfl⟩
    exact ⟨rfl, _, by rw [hp.1]; exact hx, insertion_stab x a b (by omega), sortedK_of ho, fun t ht => hp.2.1 t (.inl ht), S.on hblk n _ os hp.1⟩
  refine (stable_k pk Tryz.func159 Tryz.func139 Tryz.func119 Tryz.func83 Tryz.func118 51 #[] (cfK keyP) (fun x y => cfK_neg x y) cap eg (cmpP _ _ _ _) R d w rfl (SWK.start hH) (by omega) hI).mono ?_
  rintro e w' ⟨rfl, d', h1, h2, n, os, h3⟩
  exact ⟨rfl, d', h1, h2, n, os, h3⟩
end Go.Proofs.YtlgmanbilaminaaGreatDoor.S12
set_option linter.unusedVariables false
set_option maxRecDepth 100000
namespace Go.Proofs.YtlgmanbilaminaaGreatDoor
open Go Go.Proofs Go.ChangeShapes Go.WideShapes Go.ChangeAt Go.RowKit Go.Lib Go.Deep
section
variable {H : Type} {enc : TypeId × Value → H} {W : World}
theorem open_list {T e : TypeId} {z : Nat} (ht : Tryz.prog.underlying T = some (.slice e)) (hz : Tryz.prog.cellsOf e = z) (hz0 : 0 < z) {α : Type} [Inhabited α] (cells : α → List Value) (Ok : α → DataW H → Prop) (hcl : ∀ a, (cells a).length = z)
    (each : ∀ n cs x, DataW.trod enc Tryz.prog W 0 (fun _ => true) true n e cs = some x → ∃ a, cs = cells a ∧ Ok a x.1) {fuel : Nat} {v : Value} {x : DataW H × List MemPlace} (hf : DataW.trod enc Tryz.prog W 0 (fun _ => true) true fuel T [v] = some x) :
    ∃ (A : Option Addr) (l : List α) (c : Nat), v = .slice A l.length c ∧ l.length ≤ c ∧ c ≤ maxLen ∧
      (l = [] ∨ ∃ b off, A = some ⟨b, off, none⟩ ∧ b < W.heap.size ∧ ∀ (j : Nat) (a : α), l[j]? = some a → ∀ (i : Nat) (u : Value), (cells a)[i]? = some u → W.cell? ⟨b, off + j * z + i, none⟩ = some u) ∧
      ∃ ds rest : List (DataW H), (x.1 = .slice ds rest ∨ (x.1 = .nil ∧ ds = [])) ∧ ds.length = l.length ∧ ∀ (j : Nat) (a : α), l[j]? = some a → ∃ d, ds[j]? = some d ∧ Ok a d := by
  rcases open_slice ht hf with ⟨hcs, rfl⟩ | ⟨a, len, cap, m, n, D, Pl, hcs, _, hl, hm, hmm, rfl, hx⟩
  · simp at hcs
    subst hcs
    exact ⟨none, [], 0, rfl, Nat.le_refl _, by unfold maxLen; omega, .inl rfl, [], [], .inr ⟨rfl, rfl⟩, rfl, fun j a h => by simp at h⟩
  · simp at hcs
    subst hcs
    have hmc : m = cap := by simpa using hmm
    rw [hz] at hx
    obtain ⟨F, hF⟩ := choose_lt (α := α) (p := fun i y => W.cells? 0 (a.add (i * z)) z = some (cells y) ∧ Ok y (D i)) (n := m) (fun i hi => by
      obtain ⟨cs', h1, h2⟩ := hx i hi
      obtain ⟨y, rfl, h3⟩ := each _ _ _ h2
      exact ⟨y, h1, h3⟩)
    refine ⟨some a, (List.range len).map F, cap, by simp, by simpa using hl, hm, ?_, (List.range len).map D, _, .inl rfl, by simp, fun j y hj => ?_⟩
    · rcases Nat.eq_zero_or_pos len with h0 | h0
      · subst h0; exact .inl rfl
      · right
        have hc : ∀ i, i < m → ∀ k, k < z → W.cell? ((a.add (i * z)).add k) = (cells (F i))[k]? := fun i hi k hk => (World.cells?_some (hF i hi).1).2.2 k hk
        have h00 := hc 0 (by omega) 0 hz0
        rw [List.getElem?_eq_getElem (by rw [hcl]; exact hz0)] at h00
        obtain ⟨b, off, spot⟩ := a
        have hspot : spot = none := by simpa [Addr.add] using World.cell?_spot h00
        subst hspot
        have hadd : ∀ i k : Nat, ((⟨b, off, none⟩ : Addr).add i).add k = ⟨b, off + i + k, none⟩ := fun i k => by rw [Go.WideShapes.add_plain, Go.WideShapes.add_plain]
        rw [hadd] at h00
        refine ⟨b, off, rfl, World.block_lt_of_cell? W _ h00, fun j y hj i u hu => ?_⟩
        rw [List.getElem?_map] at hj
        obtain ⟨j', hj', rfl⟩ := Option.map_eq_some_iff.1 hj
        have hjl : j < len := by
          have := (List.getElem?_eq_some_iff.1 hj').1
          simpa using this
        rw [List.getElem?_range hjl] at hj'
        obtain rfl := Option.some.inj hj'
        have hi : i < z := by
          have := (List.getElem?_eq_some_iff.1 hu).1
          rw [hcl] at this
          exact this
        have := hc j (by omega) i hi
        rw [hadd] at this
        rw [this]
        exact hu
    · rw [List.getElem?_map] at hj
      obtain ⟨j', hj', rfl⟩ := Option.map_eq_some_iff.1 hj
      have hjl : j < len := by
        have := (List.getElem?_eq_some_iff.1 hj').1
        simpa using this
      rw [List.getElem?_range hjl] at hj'
      obtain rfl := Option.some.inj hj'
      exact ⟨D j, by rw [List.getElem?_map, List.getElem?_range hjl]; rfl, (hF j (by omega)).2⟩
end
end Go.Proofs.YtlgmanbilaminaaGreatDoor
set_option linter.unusedVariables false
set_option maxRecDepth 100000
namespace Go.Proofs.YtlgmanbilaminaaGreatDoor
open Go Go.Proofs Go.ChangeShapes Go.WideShapes Go.ChangeAt Go.RowKit Go.Lib Go.Deep
theorem cs3 : Tryz.prog.cellsOf 3 = 1 := by kernel_rfl
theorem cs4 : Tryz.prog.cellsOf 4 = 1 := by kernel_rfl
theorem cs9 : Tryz.prog.cellsOf 9 = 1 := by kernel_rfl
theorem csStrs : Tryz.prog.cellsOf 40 = 1 := by kernel_rfl
theorem csFields : Tryz.prog.cellsOf 24 = 1 := by kernel_rfl
theorem csField : Tryz.prog.cellsOf 99 = 3 := by kernel_rfl
theorem csRec : Tryz.prog.cellsOf 26 = 2 := by kernel_rfl
instance : Inhabited Room5 := ⟨⟨none, 0, none, 0⟩⟩
section
variable {H : Type} {enc : TypeId × Value → H} {W : World}
theorem tk1 {cs : List Value} {k : Nat} {v : Value} (h : (cs.drop k).take 1 = [v]) : cs[k]? = some v := by
  have := congrArg (·[0]?) h
  simpa [List.getElem?_take, List.getElem?_drop] using this
theorem tk1' {cs : List Value} {k : Nat} (h : k < cs.length) : ∃ v, (cs.drop k).take 1 = [v] := by
  refine ⟨cs[k], ?_⟩
  rw [List.drop_eq_getElem_cons h]
  rfl
theorem four4 {cs : List Value} {a b c d : Value} (hl : cs.length = 4) (h0 : cs[0]? = some a) (h1 : cs[1]? = some b) (h2 : cs[2]? = some c) (h3 : cs[3]? = some d) : cs = [a, b, c, d] := by
  match cs, hl with
  | [c0, c1, c2, c3], _ => simp at h0 h1 h2 h3; simp [h0, h1, h2, h3]
theorem three3 {cs : List Value} {a b c : Value} (hl : cs.length = 3) (h0 : cs[0]? = some a) (h1 : cs[1]? = some b) (h2 : cs[2]? = some c) : cs = [a, b, c] := by
  match cs, hl with
  | [c0, c1, c2], _ => simp at h0 h1 h2; simp [h0, h1, h2]
theorem two2 {cs : List Value} {a b : Value} (hl : cs.length = 2) (h0 : cs[0]? = some a) (h1 : cs[1]? = some b) : cs = [a, b] := by
  match cs, hl with
  | [c0, c1], _ => simp at h0 h1; simp [h0, h1]
theorem open_fields7 {fuel : Nat} {v : Value} {x : DataW H × List MemPlace} (hf : DataW.trod enc Tryz.prog W 0 (fun _ => true) true fuel 24 [v] = some x) :
    ∃ (A : Option Addr) (l : List FieldD) (c : Nat), v = .slice A l.length c ∧ l.length ≤ c ∧ c ≤ maxLen ∧ FieldsIn W (fun b => b < W.heap.size) A l ∧
      ∃ ds rest : List (DataW H), (x.1 = .slice ds rest ∨ (x.1 = .nil ∧ ds = [])) ∧ ds.length = l.length ∧ ∀ (j : Nat) (f : FieldD), l[j]? = some f → ∃ d, ds[j]? = some d ∧ ∃ d1 d2, d = .agg [.lit (.string f.1), d1, d2] := by
  obtain ⟨A, l, c, hv, h1, h2, hc, hd⟩ := open_list (T := 24) (e := 99) Tryz.underlying24 csField (by omega) fieldVs (fun (f : FieldD) (d : DataW H) => ∃ d1 d2, d = .agg [.lit (.string f.1), d1, d2]) (fun _ => rfl) (fun n cs x h => by
    obtain ⟨y0, y1, y2, n, rfl, hl, h0, h1, h2⟩ := trod_struct3 Tryz.underlying99 h
    rw [csField] at hl
    dsimp only at h0 h1 h2
    rw [cs9] at h0
    rw [cs3] at h1
    rw [cs4] at h2
    obtain ⟨s, hc0, rfl, _⟩ := DataW.trod_string Tryz.underlying9 h0
    obtain ⟨z1, hc1, _, _⟩ := DataW.trod_int Tryz.underlying3 h1
    obtain ⟨b2, hc2, _⟩ := DataW.trod_bool Tryz.underlying4 h2
    exact ⟨(s.data.toList, z1, b2), three3 hl (tk1 hc0) (tk1 hc1) (tk1 hc2), _, _, rfl⟩) hf
  exact ⟨A, l, c, hv, h1, h2, hc, hd⟩
theorem bulk_all : ∀ (ds : List (DataW H)) (j : Nat) (d : DataW H), ds[j]? = some d → Rows.uptoBulk d ≤ Rows.uptoBulkAll ds
  | [], j, d, h => by simp at h
  | a :: r, 0, d, h => by
    simp at h
    subst h
    simp only [Rows.uptoBulkAll]
    omega
  | a :: r, j + 1, d, h => by
    have := bulk_all r j d (by simpa using h)
    simp only [Rows.uptoBulkAll]
    omega
theorem bulk_pos (d : DataW H) : 1 ≤ Rows.uptoBulk d := by
  cases d with
  | lit l => cases l <;> simp [Rows.uptoBulk]
  | _ => simp [Rows.uptoBulk]
theorem bulk_len : ∀ ds : List (DataW H), ds.length ≤ Rows.uptoBulkAll ds
  | [] => by simp
  | d :: r => by
    have := bulk_len r
    have := bulk_pos d
    simp only [Rows.uptoBulkAll, List.length_cons]
    omega
theorem open_recs7 {base : Nat} {v : Value} {d : DataW H} {p : List MemPlace} (hv : Value.okWide Tryz.prog W .any base 23 v) (h : DataW.Trod enc Tryz.prog W 0 (fun _ => true) true 23 v d p) :
    ∃ (A : Option Addr) (l : List RecD) (c : Nat), v = .slice A l.length c ∧ l.length ≤ c ∧ c ≤ maxLen ∧ RecsIn W (fun b => b < W.heap.size) A l ∧ l.length ≤ Rows.uptoBulk d ∧ ∀ r ∈ l, ∀ f ∈ r.2, f.1.length ≤ Rows.uptoBulk d := by
  obtain ⟨a0, len, cap, rfl⟩ := okWide_slice Tryz.underlying23 hv
  obtain ⟨fuel, hf⟩ := h
  obtain ⟨A, l, c, hv, h1, h2, hc, ds, rest, hds, hdl, hd⟩ := open_list (T := 23) (e := 26) Tryz.underlying23 csRec (by omega) (fun r : RecD × (Option Addr × Nat) => [Value.int .i64 r.1.1, Value.slice r.2.1 r.1.2.length r.2.2])
    (fun r (d : DataW H) => (FieldsIn W (fun b => b < W.heap.size) r.2.1 r.1.2 ∧ r.1.2.length ≤ r.2.2 ∧ r.2.2 ≤ 9223372036854775807) ∧ ∀ f ∈ r.1.2, f.1.length ≤ Rows.uptoBulk d) (fun _ => rfl) (fun n cs x h => by
    obtain ⟨y0, y1, n, rfl, hl, h0, h1⟩ := trod_struct2 Tryz.underlying26 h
    rw [csRec] at hl
    dsimp only at h0 h1
    rw [cs3] at h0
    rw [csFields] at h1
    obtain ⟨z0, hc0, _, _⟩ := DataW.trod_int Tryz.underlying3 h0
    obtain ⟨v1, hc1⟩ := tk1' (cs := cs) (k := 1) (by omega)
    rw [hc1] at h1
    obtain ⟨A1, l1, c1, rfl, q1, q2, q3, ds, rest, hds, hdl, hd⟩ := open_fields7 h1
    refine ⟨((z0, l1), (A1, c1)), two2 hl (tk1 hc0) (tk1 hc1), ⟨q3, q1, ?_⟩, fun f hf => ?_⟩
    · unfold maxLen at q2; show c1 ≤ _; omega
    · obtain ⟨j, hj, rfl⟩ := List.mem_iff_getElem.1 hf
      obtain ⟨d, hj', d1, d2, rfl⟩ := hd j _ (List.getElem?_eq_getElem hj)
      have h3 := bulk_all _ j _ hj'
      rcases hds with e | ⟨_, rfl⟩
      · rw [e]
        simp only [Rows.uptoBulk, Rows.uptoBulkAll] at h3 ⊢
        omega
      · simp at hj') (v := .slice a0 len cap) (x := (d, p)) hf
  refine ⟨A, l.map (·.1), c, by rw [List.length_map]; exact hv, by rw [List.length_map]; exact h1, h2, ?_, ?_, ?_⟩
  · rcases hc with h | ⟨b, off, hA, hb, hc⟩
    · exact .inl (by rw [h]; rfl)
    · refine .inr ⟨b, off, hA, hb, fun j r hj => ?_⟩
      rw [List.getElem?_map] at hj
      obtain ⟨y, hy, rfl⟩ := Option.map_eq_some_iff.1 hj
      obtain ⟨d', _, ⟨g1, g2, g3⟩, _⟩ := hd j y hy
      exact ⟨y.2.1, y.2.2, g1, g2, g3, hc j y hy 0 _ rfl, hc j y hy 1 _ rfl⟩
  · rw [List.length_map, ← hdl]
    have := bulk_len ds
    rcases hds with e | ⟨_, rfl⟩
    · dsimp only at e
      rw [e]
      simp only [Rows.uptoBulk]
      omega
    · simp
  · intro r hr f hf
    obtain ⟨y, hy, rfl⟩ := List.mem_map.1 hr
    obtain ⟨j, hj, rfl⟩ := List.mem_iff_getElem.1 hy
    obtain ⟨d', hj', _, hb⟩ := hd j _ (List.getElem?_eq_getElem hj)
    have h3 := bulk_all _ j _ hj'
    have h4 := hb f hf
    rcases hds with e | ⟨_, rfl⟩
    · dsimp only at e
      rw [e]
      simp only [Rows.uptoBulk]
      omega
    · simp at hj'
end
end Go.Proofs.YtlgmanbilaminaaGreatDoor
set_option linter.unusedVariables false
set_option maxRecDepth 100000
namespace Go.Proofs.YtlgmanbilaminaaGreatDoor.S12
open Go Go.Proofs Go.ChangeShapes Go.WideShapes Go.ChangeAt Go.RowKit Go.Lib Go.Deep Go.Proofs.YtlgmanbilaminaaGreatDoor
theorem csReq : Tryz.prog.cellsOf 61 = 4 := by kernel_rfl
section
variable {H : Type} {enc : TypeId × Value → H} {W : World}
theorem open_strsB {fuel : Nat} {v : Value} {x : DataW H × List MemPlace} (hf : DataW.trod enc Tryz.prog W 0 (fun _ => true) true fuel 40 [v] = some x) :
    ∃ (A : Option Addr) (l : List Str) (c : Nat), v = .slice A l.length c ∧ l.length ≤ c ∧ c ≤ maxLen ∧ S3.StrsIn W (fun b => b < W.heap.size) A l ∧ l.length ≤ Rows.uptoBulk x.1 := by
  obtain ⟨A, l, c, hv, h1, h2, hc, ds, rest, hds, hdl, _⟩ := open_list (T := 40) (e := 9) Tryz.underlying40 cs9 (by omega) (fun s : Str => [Value.string (ba s)]) (fun _ _ => True) (fun _ => rfl) (fun n cs x h => by
    obtain ⟨s, rfl, _, _⟩ := DataW.trod_string Tryz.underlying9 h
    exact ⟨s.data.toList, rfl, trivial⟩) hf
  refine ⟨A, l, c, hv, h1, h2, ?_, ?_⟩
  · rcases hc with h | ⟨b, off, hA, hb, hc⟩
    · exact .inl h
    · refine .inr ⟨b, off, hA, hb, fun j s hj => ?_⟩
      have h := hc j s hj 0 _ rfl
      rw [show off + j * 1 + 0 = off + j by omega] at h
      exact h
  · rw [← hdl]
    have := bulk_len ds
    rcases hds with e | ⟨_, rfl⟩
    · rw [e]
      simp only [Rows.uptoBulk]
      omega
    · simp
theorem trod_struct4' {t : TypeId} {f0 f1 f2 f3 : Field} {fuel : Nat} {cs : List Value} {x : DataW H × List MemPlace} {spare : Nat → Bool} {held : Bool} {base : Nat} (ht : Tryz.prog.underlying t = some (.struct #[f0, f1, f2, f3])) (h : DataW.trod enc Tryz.prog W base spare held fuel t cs = some x) :
    ∃ y0 y1 y2 y3 n, x.1 = .agg [y0.1, y1.1, y2.1, y3.1] ∧ cs.length = Tryz.prog.cellsOf t ∧ DataW.trod enc Tryz.prog W base spare held n f0.type ((cs.drop f0.offset).take (Tryz.prog.cellsOf f0.type)) = some y0 ∧
      DataW.trod enc Tryz.prog W base spare held n f1.type ((cs.drop f1.offset).take (Tryz.prog.cellsOf f1.type)) = some y1 ∧ DataW.trod enc Tryz.prog W base spare held n f2.type ((cs.drop f2.offset).take (Tryz.prog.cellsOf f2.type)) = some y2 ∧
      DataW.trod enc Tryz.prog W base spare held n f3.type ((cs.drop f3.offset).take (Tryz.prog.cellsOf f3.type)) = some y3 := by
  obtain ⟨xs, n, _, rfl, hl, hlen, hf⟩ := DataW.trod_struct ht h
  match xs, hlen with
  | [y0, y1, y2, y3], _ => exact ⟨y0, y1, y2, y3, n, by simp, hl, by simpa using hf 0 f0 rfl, by simpa using hf 1 f1 rfl, by simpa using hf 2 f2 rfl, by simpa using hf 3 f3 rfl⟩
theorem open_reqs {base : Nat} {v : Value} {d : DataW H} {p : List MemPlace} (hv : Value.okWide Tryz.prog W .any base 22 v) (h : DataW.Trod enc Tryz.prog W 0 (fun _ => true) true 22 v d p) :
    ∃ (A : Option Addr) (l : List ReqD) (c : Nat), v = .slice A l.length c ∧ l.length ≤ c ∧ c ≤ maxLen ∧ ReqsIn W (fun b => b < W.heap.size) A l ∧ l.length ≤ Rows.uptoBulk d ∧ ∀ r ∈ l, r.s.length ≤ maxLen ∧ r.l.length ≤ Rows.uptoBulk d := by
  obtain ⟨a0, len, cap, rfl⟩ := okWide_slice Tryz.underlying22 hv
  obtain ⟨fuel, hf⟩ := h
  obtain ⟨A, l, c, hv, h1, h2, hc, ds, rest, hds, hdl, hd⟩ := open_list (T := 22) (e := 61) Tryz.underlying22 csReq (by omega) (fun r : ReqD × ReqA => reqVs r.1 r.2) (fun r (d : DataW H) => ReqIn W (fun b => b < W.heap.size) r.1 r.2 ∧ r.1.s.length ≤ maxLen ∧ r.1.l.length ≤ Rows.uptoBulk d) (fun _ => rfl) (fun n cs x h => by
    obtain ⟨y0, y1, y2, y3, n, hx, hl, h0, h1, h2, h3⟩ := trod_struct4' Tryz.underlying61 h
    rw [csReq] at hl
    dsimp only at h0 h1 h2 h3
    rw [cs9] at h0 h1
    rw [cs3] at h2
    rw [csStrs] at h3
    obtain ⟨s0, hc0, _, hs0⟩ := DataW.trod_string Tryz.underlying9 h0
    obtain ⟨s1, hc1, _, _⟩ := DataW.trod_string Tryz.underlying9 h1
    obtain ⟨z2, hc2, _, _⟩ := DataW.trod_int Tryz.underlying3 h2
    obtain ⟨v3, hc3⟩ := tk1' (cs := cs) (k := 3) (by omega)
    rw [hc3] at h3
    obtain ⟨A2, l2, c2, rfl, r1, r2, r3, r4⟩ := open_strsB h3
    refine ⟨(⟨s0.data.toList, s1.data.toList, z2, l2⟩, (A2, c2)), four4 hl (tk1 hc0) (tk1 hc1) (tk1 hc2) (tk1 hc3), ⟨r3, r1, by unfold maxLen at r2; show c2 ≤ _; omega⟩, by show s0.data.toList.length ≤ _; rw [Array.length_toList]; exact hs0, ?_⟩
    rw [hx]
    show l2.length ≤ _
    simp only [Rows.uptoBulk, Rows.uptoBulkAll]
    omega) (v := .slice a0 len cap) (x := (d, p)) hf
  refine ⟨A, l.map (·.1), c, by rw [List.length_map]; exact hv, by rw [List.length_map]; exact h1, h2, ?_, ?_, ?_⟩
  · rcases hc with h | ⟨b, off, hA, hb, hc⟩
    · exact .inl (by rw [h]; rfl)
    · refine .inr ⟨b, off, hA, hb, fun j r hj => ?_⟩
      rw [List.getElem?_map] at hj
      obtain ⟨y, hy, rfl⟩ := Option.map_eq_some_iff.1 hj
      obtain ⟨d', _, hok, _⟩ := hd j y hy
      exact ⟨y.2, hok, hc j y hy⟩
  · rw [List.length_map, ← hdl]
    have := bulk_len ds
    rcases hds with e | ⟨_, rfl⟩
    · dsimp only at e
      rw [e]
      simp only [Rows.uptoBulk]
      omega
    · simp
  · intro r hr
    obtain ⟨y, hy, rfl⟩ := List.mem_map.1 hr
    obtain ⟨j, hj, rfl⟩ := List.mem_iff_getElem.1 hy
    obtain ⟨d', hj', _, hb1, hb2⟩ := hd j _ (List.getElem?_eq_getElem hj)
    refine ⟨hb1, ?_⟩
    have h3 := bulk_all _ j _ hj'
    rcases hds with e | ⟨_, rfl⟩
    · dsimp only at e
      rw [e]
      simp only [Rows.uptoBulk]
      omega
    · simp at hj'
end
end Go.Proofs.YtlgmanbilaminaaGreatDoor.S12
