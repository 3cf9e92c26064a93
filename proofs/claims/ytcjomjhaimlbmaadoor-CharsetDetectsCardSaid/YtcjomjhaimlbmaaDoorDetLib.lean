/-
  utf8.DecodeRune and bytes.IndexFunc as charset.Detect calls them, at any slice of bytes. Conditions: the bytes lie in memory; the library's two tables hold what their initialisers lay.
-/
import Derived.Test.YtcjomjhaimlbmaaDoorShelfB
import Derived.Test.YtcjomjhaimlbmaaDoorDetMath
import Derived.Test.YtcjomjhaimlbmaaDoorEnc
set_option linter.unusedVariables false
namespace Go.Proofs.YtcjomjhaimlbmaaDoor
open Go Go.Proofs Go.RowKit Go.Lib

/-- The bytes of a list, as the library's contracts want them. -/
theorem BIn.bytesAt {w : World} {B : Nat} {A : Option Addr} {l : List UInt8} (h : BIn w B A l) (hne : l ≠ []) : ∃ b off, A = some ⟨b, off, none⟩ ∧ BytesAt (⟨l.toArray⟩ : ByteArray) b off w := by
  rcases h with h | ⟨b, off, hA, _, hc⟩
  · exact absurd h hne
  · refine ⟨b, off, hA, fun j hj => ?_⟩
    have hj' : j < l.length := by
      have e : (⟨l.toArray⟩ : ByteArray).size = l.length := by show l.toArray.size = _; simp
      rwa [e] at hj
    rw [hc j _ (List.getElem?_eq_getElem hj')]
    congr 3
    rw [← Lib.getD_get!']
    simp [List.getD, List.getElem?_eq_getElem hj']

set_option maxHeartbeats 1000000 in
set_option maxRecDepth 100000 in
theorem decodeSlow_empty (A : Option Addr) (c : Nat) (w : World) :
    Calls Tryd.prog 37 #[.slice A 0 c] w fun e w' => e = .returned (.tuple #[.int .i32 65533, .int .i64 0]) ∧ w' = w := by
  go_enter Tryd.func37, Tryd.ntmps37
  go_wp2
  go_ret2
  exact ⟨rfl, rfl⟩
set_option maxHeartbeats 1000000 in
set_option maxRecDepth 100000 in
theorem decodeRune_empty (A : Option Addr) (c : Nat) (w : World) :
    Calls Tryd.prog 27 #[.slice A 0 c] w fun e w' => e = .returned (.tuple #[.int .i32 65533, .int .i64 0]) ∧ w' = w := by
  have cS := decodeSlow_empty A c w
  go_enter Tryd.func27, Tryd.ntmps27
  go_wp2
  go_loop [8] (fun i => i = .int .i64 0) (fun _ => 0)
  case atStart => rfl
  case round =>
    subst hrel
    go_wp2_with (go_at_call 37; refine cS.mono ?_; rintro e w' ⟨rfl, rfl⟩)
    go_ret2
    exact ⟨rfl, rfl⟩
set_option maxHeartbeats 1000000 in
set_option maxRecDepth 100000 in
theorem indexFunc38_empty (A : Option Addr) (c : Nat) (fv : Value) (w : World) :
    Calls Tryd.prog 38 #[.slice A 0 c, fv, .bool true] w fun e w' => e = .returned (.int .i64 (-1)) ∧ w' = w := by
  go_enter Tryd.func38, Tryd.ntmps38
  go_wp2
  go_loop [7] (fun n => n = .int .i64 0) (fun _ => 0)
  case atStart => rfl
  case round =>
    subst hrel
    go_wp2
    go_ret
    exact ⟨rfl, rfl⟩
set_option maxHeartbeats 1000000 in
theorem indexFunc28_on (A : Option Addr) (n c : Nat) (fv : Value) (w : World) (I : Int) (Q : World → Prop)
    (cS : Calls Tryd.prog 38 #[.slice A n c, fv, .bool true] w fun e w' => e = .returned (.int .i64 I) ∧ Q w') :
    Calls Tryd.prog 28 #[.slice A n c, fv] w fun e w' => e = .returned (.int .i64 I) ∧ Q w' := by
  go_enter Tryd.func28, Tryd.ntmps28
  go_wp2_with (go_at_call 38; refine cS.mono ?_; rintro e w' ⟨rfl, hq⟩)
  go_ret
  exact ⟨rfl, hq⟩

/-- The first rune: the mark or another. -/
theorem decodeRune_any (A : Option Addr) (l : List UInt8) (c : Nat) (w : World) (hb : BIn w w.heap.size A l) (hT : Lib.Utf8Tabs 0 1 w) :
    Calls Tryd.prog 27 #[.slice A l.length c] w fun e w' => (∃ (R K : Nat), e = .returned (.tuple #[.int .i32 (R : Int), .int .i64 (K : Int)]) ∧ ((R : Int) == 65279) = markB l) ∧ Below w.heap.size w w' := by
  by_cases hne : l = []
  · subst hne
    refine (decodeRune_empty A c w).mono ?_
    rintro e w' ⟨rfl, rfl⟩
    exact ⟨⟨65533, 0, rfl, by rw [markB_nil]; rfl⟩, Below.refl _ _⟩
  · obtain ⟨b, off, rfl, hB⟩ := hb.bytesAt hne
    have hl : 0 < l.length := List.length_pos_iff.2 hne
    have hs : (⟨l.toArray⟩ : ByteArray).size = l.length := by show l.toArray.size = _; simp
    have h := Any7.utf8_DecodeRune Tryd.lays732 (⟨l.toArray⟩ : ByteArray) b off c w hT hB
    rw [hs] at h
    refine h.mono ?_
    rintro e w' ⟨rfl, hbw⟩
    refine ⟨⟨_, _, rfl, ?_⟩, hbw⟩
    have hd : Lib.decodeGo (⟨l.toArray⟩ : ByteArray) = decodeL l := by
      unfold Lib.decodeGo
      rw [hs, if_neg (by omega), ← Lib.decodeL_drop]
      simp
    rw [hd, markB_first, Bool.eq_iff_iff]
    simp only [beq_iff_eq, decide_eq_true_eq]
    omega

/-- Whether a rune is above. -/
theorem indexFunc28_any (A : Option Addr) (l : List UInt8) (c : Nat) (hlc : l.length ≤ c) (hl63 : l.length ≤ 9223372036854775807) (g a : Nat) (w : World) (hb : BIn w w.heap.size A l) (hT : Lib.Utf8Tabs 0 1 w)
    (hc : w.cell? ⟨a, 0, none⟩ = some (.int .i32 (g : Int))) (ha : a < w.heap.size) :
    Calls Tryd.prog 28 #[.slice A l.length c, .func (.func 33) #[] #[.pointer (some ⟨a, 0, none⟩)]] w fun e w' => (∃ I : Int, e = .returned (.int .i64 I) ∧ decide (0 ≤ I) = bigB g l) ∧ Below w.heap.size w w' := by
  by_cases hne : l = []
  · subst hne
    refine (indexFunc28_on A 0 c _ w (-1) (fun w' => w' = w) (indexFunc38_empty A c _ w)).mono ?_
    rintro e w' ⟨rfl, rfl⟩
    exact ⟨⟨-1, rfl, rfl⟩, Below.refl _ _⟩
  · obtain ⟨b, off, rfl, hB⟩ := hb.bytesAt hne
    have hs : (⟨l.toArray⟩ : ByteArray).size = l.length := by show l.toArray.size = _; simp
    have hp : PredGrows Tryd.prog 33 #[.pointer (some ⟨a, 0, none⟩)] (fun r => decide (g < r)) w := by
      intro W x _ hbW
      have hcW : W.cell? ⟨a, 0, none⟩ = some (.int .i32 (g : Int)) := (hbW.cell (p := ⟨a, 0, none⟩) ha).trans hc
      have h := beyond_any (x : Int) (g : Int) a W hcW
      have e1 : decide ((g : Int) < (x : Int)) = decide (g < x) := by
        apply decide_eq_decide.2
        omega
      rw [e1] at h
      exact h.mono fun e w' ⟨he, hw⟩ => ⟨he, hw ▸ Below.refl _ _⟩
    have h := Any7.bytes_indexFunc Tryd.lays755 33 #[.pointer (some ⟨a, 0, none⟩)] enters33 (fun r => decide (g < r)) true (⟨l.toArray⟩ : ByteArray) b off c w (by omega) (by omega) hB hT hp
    rw [hs] at h
    refine (indexFunc28_on _ l.length c _ w _ _ h).mono ?_
    rintro e w' ⟨rfl, hbw⟩
    exact ⟨⟨_, rfl, by rw [idx_any]⟩, hbw⟩
end Go.Proofs.YtcjomjhaimlbmaaDoor
