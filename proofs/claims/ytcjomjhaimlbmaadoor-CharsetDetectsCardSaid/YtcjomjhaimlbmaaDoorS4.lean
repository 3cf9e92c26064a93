/-
  What charset.Decode returns, for any bytes in any encoding: the error, else the text and the damage. Condition: the library's two tables hold what their initialisers lay.
-/
import Derived.Test.YtcjomjhaimlbmaaDoorS2
import Derived.Test.YtcjomjhaimlbmaaDoorS3
namespace Go.Proofs.YtcjomjhaimlbmaaDoor
open Go Go.Proofs Go.RowKit Go.Lib

set_option maxHeartbeats 1000000 in
theorem decode_unknown (A : Option Addr) (n c : Nat) (k : Int) (h1 : (k == 1) = false) (h2 : (k == 2) = false) (h3 : (k == 3) = false) (w : World) :
    Calls Tryd.prog 8 #[.slice A n c, .int .i64 k] w (Dec3 w [] [] 6) := by
  go_enter Tryd.func8, Tryd.ntmps8
  go_wp2_with (go_at_call 18; refine (greatestOf_no k h1 h2 h3 _).mono ?_; rintro e w' ⟨rfl, rfl⟩)
  go_ret3
  exact ⟨_, rfl, Dmg.nil _ _, Below.refl _ _⟩

set_option maxHeartbeats 1000000 in
theorem decode_large (A : Option Addr) (n c : Nat) (k : Int) (hk : k = 1 ∨ k = 2 ∨ k = 3) (hn : 65536 < n) (w : World) :
    Calls Tryd.prog 8 #[.slice A n c, .int .i64 k] w (Dec3 w [] [] 2) := by
  rcases hk with rfl | rfl | rfl
  · go_enter Tryd.func8, Tryd.ntmps8
    go_wp2_with (go_at_call 18; refine (greatestOf_1 _).mono ?_; rintro e w' ⟨rfl, rfl⟩)
    go_ret3
    exact ⟨_, rfl, Dmg.nil _ _, Below.refl _ _⟩
  · go_enter Tryd.func8, Tryd.ntmps8
    go_wp2_with (go_at_call 18; refine (greatestOf_2 _).mono ?_; rintro e w' ⟨rfl, rfl⟩)
    go_ret3
    exact ⟨_, rfl, Dmg.nil _ _, Below.refl _ _⟩
  · go_enter Tryd.func8, Tryd.ntmps8
    go_wp2_with (go_at_call 18; refine (greatestOf_3 _).mono ?_; rintro e w' ⟨rfl, rfl⟩)
    go_ret3
    exact ⟨_, rfl, Dmg.nil _ _, Below.refl _ _⟩

theorem decP_later {w w1 : World} {D : List (Nat × UInt8)} {dv : Value} {w' : World} {o : Obj} (h1 : w.alloc o = w1) (hd : Dmg w' w1.heap.size dv D) (hb : Below w1.heap.size w1 w') : Dmg w' w.heap.size dv D ∧ Below w.heap.size w w' := by
  subst h1
  exact ⟨hd.mono (by simp), ((Below.refl _ w).alloc (Nat.le_refl _) o).trans (hb.mono (by simp))⟩

set_option maxHeartbeats 1000000 in
theorem decode_utf8 (A : Option Addr) (l : List UInt8) (c : Nat) (hl : l.length ≤ 65536) (w : World) (hb : BIn w w.heap.size A l) (hT : Lib.Utf8Tabs 0 1 w) :
    Calls Tryd.prog 8 #[.slice A l.length c, .int .i64 3] w (Dec3 w (textT (tokens 3 l)) (dmgT (tokens 3 l)) 0) := by
  have hcv : (Go.convert 22 9 (.slice A l.length c)).run Tryd.prog w = .ok (.string ⟨l.toArray⟩) w := hb.convert c 22 5 9 Tryd.underlying22 Tryd.underlying5 Tryd.underlying9
  have cU := decodeUtf8_any ⟨l.toArray⟩ w (by show l.toArray.size ≤ 65536; simpa using hl) hT
  have hn : ¬ ((65536 : Int) < (l.length : Int)) := by omega
  go_enter Tryd.func8, Tryd.ntmps8
  go_wp2_with (first | (go_at_call 18; refine (greatestOf_3 _).mono ?_; rintro e w' ⟨rfl, rfl⟩) | (go_at_call 19; refine cU.mono ?_; rintro e w' ⟨dv, rfl, hd, hbb⟩))
  go_ret3
  exact ⟨_, rfl, hd, hbb⟩

set_option maxHeartbeats 1000000 in
theorem decode_ascii (A : Option Addr) (l : List UInt8) (c : Nat) (hl : l.length ≤ 65536) (w : World) (hb : BIn w w.heap.size A l) :
    Calls Tryd.prog 8 #[.slice A l.length c, .int .i64 1] w (Dec3 w (textT (tokens 1 l)) (dmgT (tokens 1 l)) 0) := by
  have hn : ¬ ((65536 : Int) < (l.length : Int)) := by omega
  have cS : ∀ w1, w.alloc (.cells #[.int .i32 127] 21) = w1 → Calls Tryd.prog 20 #[.slice A l.length c, .func (.func 33) #[] #[.pointer (some ⟨w.heap.size, 0, none⟩)]] w1 (DecP w1 (textT (sings 127 0 l)) (dmgT (sings 127 0 l))) := by
    rintro w1 rfl
    exact decodeSingle_any A l c 127 w.heap.size _ hl ((hb.below ((Below.refl _ w).alloc (Nat.le_refl _) _)).mono (by simp)) (by simp) (by simp)
  have CS := hid cS
  clear cS
  go_enter Tryd.func8, Tryd.ntmps8
  go_wp2_with (first | (go_at_call 18; refine (greatestOf_1 _).mono ?_; rintro e w' ⟨rfl, rfl⟩) | (go_at_call 21; refine (above_any _ _).mono ?_; rintro e w1 ⟨rfl, h1⟩; have H1 := hid h1; clear h1) | (go_at_call 20; refine (CS.out _ H1.out).mono ?_; rintro e w' ⟨dv, rfl, hd, hbb⟩))
  go_ret3
  obtain ⟨hd', hb'⟩ := decP_later H1.out hd hbb
  exact ⟨_, rfl, hd', hb'⟩

set_option maxHeartbeats 1000000 in
theorem decode_latin (A : Option Addr) (l : List UInt8) (c : Nat) (hl : l.length ≤ 65536) (w : World) (hb : BIn w w.heap.size A l) :
    Calls Tryd.prog 8 #[.slice A l.length c, .int .i64 2] w (Dec3 w (textT (tokens 2 l)) (dmgT (tokens 2 l)) 0) := by
  have hn : ¬ ((65536 : Int) < (l.length : Int)) := by omega
  have cS : ∀ w1, w.alloc (.cells #[.int .i32 255] 21) = w1 → Calls Tryd.prog 20 #[.slice A l.length c, .func (.func 33) #[] #[.pointer (some ⟨w.heap.size, 0, none⟩)]] w1 (DecP w1 (textT (sings 255 0 l)) (dmgT (sings 255 0 l))) := by
    rintro w1 rfl
    exact decodeSingle_any A l c 255 w.heap.size _ hl ((hb.below ((Below.refl _ w).alloc (Nat.le_refl _) _)).mono (by simp)) (by simp) (by simp)
  have CS := hid cS
  clear cS
  go_enter Tryd.func8, Tryd.ntmps8
  go_wp2_with (first | (go_at_call 18; refine (greatestOf_2 _).mono ?_; rintro e w' ⟨rfl, rfl⟩) | (go_at_call 21; refine (above_any _ _).mono ?_; rintro e w1 ⟨rfl, h1⟩; have H1 := hid h1; clear h1) | (go_at_call 20; refine (CS.out _ H1.out).mono ?_; rintro e w' ⟨dv, rfl, hd, hbb⟩))
  go_ret3
  obtain ⟨hd', hb'⟩ := decP_later H1.out hd hbb
  exact ⟨_, rfl, hd', hb'⟩

/-- The error of Decode, its text and its damage. -/
def errD (k : Int) (n : Nat) : Int := if k = 1 ∨ k = 2 ∨ k = 3 then (if 65536 < n then 2 else 0) else 6
def tokD (k : Int) (l : List UInt8) : List Tok := if (k = 1 ∨ k = 2 ∨ k = 3) ∧ l.length ≤ 65536 then tokens k l else []

theorem decode_any (A : Option Addr) (l : List UInt8) (c : Nat) (k : Int) (w : World) (hb : BIn w w.heap.size A l) (hT : Lib.Utf8Tabs 0 1 w) :
    Calls Tryd.prog 8 #[.slice A l.length c, .int .i64 k] w (Dec3 w (textT (tokD k l)) (dmgT (tokD k l)) (errD k l.length)) := by
  by_cases hk : k = 1 ∨ k = 2 ∨ k = 3
  · by_cases hl : l.length ≤ 65536
    · have e1 : tokD k l = tokens k l := if_pos ⟨hk, hl⟩
      have e2 : errD k l.length = 0 := by unfold errD; rw [if_pos hk, if_neg (by omega)]
      rw [e1, e2]
      rcases hk with rfl | rfl | rfl
      · exact decode_ascii A l c hl w hb
      · exact decode_latin A l c hl w hb
      · exact decode_utf8 A l c hl w hb hT
    · have e1 : tokD k l = [] := if_neg (fun h => hl h.2)
      have e2 : errD k l.length = 2 := by unfold errD; rw [if_pos hk, if_pos (by omega)]
      rw [e1, e2]
      exact decode_large A l.length c k hk (by omega) w
  · have e1 : tokD k l = [] := if_neg (fun h => hk h.1)
    have e2 : errD k l.length = 6 := by unfold errD; rw [if_neg hk]
    rw [e1, e2]
    have h1 : k ≠ 1 := fun h => hk (.inl h)
    have h2 : k ≠ 2 := fun h => hk (.inr (.inl h))
    have h3 : k ≠ 3 := fun h => hk (.inr (.inr h))
    exact decode_unknown A l.length c k (by simp [h1]) (by simp [h2]) (by simp [h3]) w
end Go.Proofs.YtcjomjhaimlbmaaDoor
