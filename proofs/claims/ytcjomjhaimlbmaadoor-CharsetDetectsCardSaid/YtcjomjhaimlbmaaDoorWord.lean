/-
  unicode/utf8.word at a slice of bytes: the number that the first eight bytes spell. The slice has at least eight bytes; its bytes lie in one block.
-/
import Derived.Test.YtcjomjhaimlbmaaDoorShelfB
import Derived.Shelf.Unicode.WordAny
import Derived.Lib.ValidAsc
import Derived.Laws.BitsAllLaws
import Derived.Deep.LoopGhost
import Derived.Deep.DeepMust
import Derived.Deep.DeepBigQuietO
import Derived.Below
import Derived.Deep.CutBlock
import Derived.Deep.DeepCutAuto
import Derived.WalkKit
import Derived.WalkSpells
import Derived.Lib.Hide
set_option linter.unusedVariables false
namespace Go.Proofs.YtcjomjhaimlbmaaDoor
open Go Go.Proofs Go.RowKit Go.Lib

set_option maxHeartbeats 8000000 in
set_option maxRecDepth 100000 in
theorem word_any (s : ByteArray) (b off cap : Nat) (w : World) (hs : 8 ≤ s.size) (hB : BytesAt s b off w) :
    Calls Tryd.prog 39 #[.slice (some ⟨b, off, none⟩) s.size cap] w fun e w' => e = .returned (.int .u64 (Lib.leNat [s.get! 0, s.get! 1, s.get! 2, s.get! 3, s.get! 4, s.get! 5, s.get! 6, s.get! 7])) ∧ ∃ q, w' = w.drewN q := by
  have mixed : Tryd.prog.follows .mixedOrders = true := by kernel_rfl
  obtain ⟨x0, hx0⟩ : ∃ x0, s.get! 0 = x0 := ⟨_, rfl⟩
  have hs0 : w.cell? ⟨b, off, none⟩ = some (.int .u8 x0.toNat) := by have := hB 0 (by omega); rwa [hx0] at this
  have h0 : x0.toNat < 256 := x0.toNat_lt
  obtain ⟨x1, hx1⟩ : ∃ x1, s.get! 1 = x1 := ⟨_, rfl⟩
  have hs1 : w.cell? ⟨b, off + 1, none⟩ = some (.int .u8 x1.toNat) := by have := hB 1 (by omega); rwa [hx1] at this
  have h1 : x1.toNat < 256 := x1.toNat_lt
  obtain ⟨x2, hx2⟩ : ∃ x2, s.get! 2 = x2 := ⟨_, rfl⟩
  have hs2 : w.cell? ⟨b, off + 2, none⟩ = some (.int .u8 x2.toNat) := by have := hB 2 (by omega); rwa [hx2] at this
  have h2 : x2.toNat < 256 := x2.toNat_lt
  obtain ⟨x3, hx3⟩ : ∃ x3, s.get! 3 = x3 := ⟨_, rfl⟩
  have hs3 : w.cell? ⟨b, off + 3, none⟩ = some (.int .u8 x3.toNat) := by have := hB 3 (by omega); rwa [hx3] at this
  have h3 : x3.toNat < 256 := x3.toNat_lt
  obtain ⟨x4, hx4⟩ : ∃ x4, s.get! 4 = x4 := ⟨_, rfl⟩
  have hs4 : w.cell? ⟨b, off + 4, none⟩ = some (.int .u8 x4.toNat) := by have := hB 4 (by omega); rwa [hx4] at this
  have h4 : x4.toNat < 256 := x4.toNat_lt
  obtain ⟨x5, hx5⟩ : ∃ x5, s.get! 5 = x5 := ⟨_, rfl⟩
  have hs5 : w.cell? ⟨b, off + 5, none⟩ = some (.int .u8 x5.toNat) := by have := hB 5 (by omega); rwa [hx5] at this
  have h5 : x5.toNat < 256 := x5.toNat_lt
  obtain ⟨x6, hx6⟩ : ∃ x6, s.get! 6 = x6 := ⟨_, rfl⟩
  have hs6 : w.cell? ⟨b, off + 6, none⟩ = some (.int .u8 x6.toNat) := by have := hB 6 (by omega); rwa [hx6] at this
  have h6 : x6.toNat < 256 := x6.toNat_lt
  obtain ⟨x7, hx7⟩ : ∃ x7, s.get! 7 = x7 := ⟨_, rfl⟩
  have hs7 : w.cell? ⟨b, off + 7, none⟩ = some (.int .u8 x7.toNat) := by have := hB 7 (by omega); rwa [hx7] at this
  have h7 : x7.toNat < 256 := x7.toNat_lt
  rw [hx0, hx1, hx2, hx3, hx4, hx5, hx6, hx7]
  have hv : ((Lib.leNat [x0, x1, x2, x3, x4, x5, x6, x7] : Nat) : Int) = (x0.toNat : Int) + (x1.toNat : Int) * 256 + (x2.toNat : Int) * 65536 + (x3.toNat : Int) * 16777216 + (x4.toNat : Int) * 4294967296 + (x5.toNat : Int) * 1099511627776 + (x6.toNat : Int) * 281474976710656 + (x7.toNat : Int) * 72057594037927936 := by
    simp only [Lib.leNat]
    push_cast
    omega
  have q0 : (0 : Int) < (s.size : Int) := by omega
  have p0 : 0 < s.size := by omega
  have q1 : (1 : Int) < (s.size : Int) := by omega
  have p1 : 1 < s.size := by omega
  have q2 : (2 : Int) < (s.size : Int) := by omega
  have p2 : 2 < s.size := by omega
  have q3 : (3 : Int) < (s.size : Int) := by omega
  have p3 : 3 < s.size := by omega
  have q4 : (4 : Int) < (s.size : Int) := by omega
  have p4 : 4 < s.size := by omega
  have q5 : (5 : Int) < (s.size : Int) := by omega
  have p5 : 5 < s.size := by omega
  have q6 : (6 : Int) < (s.size : Int) := by omega
  have p6 : 6 < s.size := by omega
  have q7 : (7 : Int) < (s.size : Int) := by omega
  have p7 : 7 < s.size := by omega
  clear hB hx0 hx1 hx2 hx3 hx4 hx5 hx6 hx7
  go_enter Tryd.func39, Tryd.ntmps39
  go_wp2
  go_quiet (fail)
  go_wp2
  go_ret
  refine ⟨?_, _, rfl⟩
  simp (disch := omega) only [u64_or8, u64_or16, u64_or24, u64_or32, u64_or40, u64_or48, u64_or56]
  rw [hv]
  rfl
end Go.Proofs.YtcjomjhaimlbmaaDoor
