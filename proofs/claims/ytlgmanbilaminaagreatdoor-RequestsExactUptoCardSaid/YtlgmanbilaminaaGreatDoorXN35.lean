/-
  symMerge of the library's stable sort, at requests: over a program of which the types and bodies alone are known. Conditions: as stated.
-/
import Derived.Test.YtlgmanbilaminaaGreatDoorXN17
import Derived.Test.YtlgmanbilaminaaGreatDoorXN34
import Derived.Sort.WalkA
import Derived.Sort.LotA
import Derived.Shelf.SlSortCmp.Insertion
import Derived.Test.YtlgmanbilaminaaGreatDoorProg
import Derived.Shelf.SlSortCmp.KitK
import Derived.Lib.Hide
import Derived.Deep.LoopGhost
import Derived.Deep.DeepCutAuto
set_option linter.unusedVariables false
namespace Go.Proofs.YtlgmanbilaminaaGreatDoor.S12
open Go Go.Proofs Go.RowKit Go.Lib Go.Sort Go.Shelf Go.Proofs.YtlgmanbilaminaaGreatDoor
variable {P : Program} {k : Nat} {α : Type} [Inhabited α] {enc : α → List Value} {key : α → Int} {blk off : Nat} {d0 : Array α} {w0 : World}
omit [Inhabited α] in
theorem cfK_neg (x y : α) : cfK key x y < 0 ↔ key x < key y := by
  unfold cfK
  by_cases h : key x < key y
  · rw [if_pos h]; simp [h]
  · rw [if_neg h]
    by_cases h2 : key y < key x
    · rw [if_pos h2]; simp [h]
    · rw [if_neg h2]; simp [h]
set_option maxHeartbeats 16000000 in
set_option maxRecDepth 1000000 in
theorem symMerge_k (K : PK P k) (FS : P.funcs[159]? = some Tryz.f159) (FR : P.funcs[139]? = some Tryz.f139) (F : P.funcs[119]? = some Tryz.f119) (g : Nat) (cb : Array Value) (cf : α → α → Int) (hcf : ∀ x y, cf x y < 0 ↔ key x < key y) (cap : Nat)
    (eg : ∀ args w, (callFunc g args).run P w = .ok (.enter g args) w) (hcmp : CmpLays P g cb enc k cf blk off d0.size w0) (R : RowK enc k w0 blk off d0) :
    ∀ (N a m b : Nat) (d : Array α) (w : World), b - a < N → d0.size = d.size → SWK enc k w0 blk off d w → a < m → m < b → b ≤ d.size → d.size < 1152921504606846976 → SortedK key a m d → SortedK key m b d →
    Calls P 119 #[.slice (some ⟨blk, off, none⟩) d.size cap, .int .i64 a, .int .i64 m, .int .i64 b, .func (.func g) #[] cb] w fun e w' => e = .returned (.tuple #[]) ∧ ∃ d', MergeOut key a b d d' ∧ SWK enc k w0 blk off d' w' := by
  have mixed := K.mixed; have t3 := K.t3; have a3 := K.a3; have z3 := K.z3; have v3 := K.v3; have t4 := K.t4; have a4 := K.a4; have z4 := K.z4; have v4 := K.v4; have t22 := K.t22; have a22 := K.a22; have z22 := K.z22; have v22 := K.v22; have t123 := K.t123; have a123 := K.a123; have z123 := K.z123; have a85 := K.a85; have z85 := K.z85; have aE := K.aE; have zE := K.zE; have u3 := run_underlying K.t3; have u22 := run_underlying K.t22; have u123 := run_underlying K.t123
  have eR : ∀ args w, (callFunc 139 args).run P w = .ok (.enter 139 args) w := enters_of FR (by kernel_rfl) rfl
  have eM : ∀ args w, (callFunc 119 args).run P w = .ok (.enter 119 args) w := enters_of F (by kernel_rfl) rfl
  have HC : Aside _ := hcmp
  have CF := hid hcf
  have K0 := hid K
  clear hcmp hcf
  intro N
  induction N with
  | zero => intro _ _ _ _ _ h; exact absurd h (Nat.not_lt_zero _)
  | succ N ih =>
    intro a m b d w hN hs S ham hmb hb hsz hl hr
    have S0 : Aside (SWK enc k w0 blk off d w) := S
    have IH := hid ih
    have HL := hid hl
    have HR := hid hr
    clear S ih hl hr
    go_enter F, Tryz.ntmps119
    by_cases c1 : m = a + 1
    · as_aux_lemma =>
        subst c1
        clear IH
        have z1 : ((a + 1 : Nat) : Int) - (a : Int) = 1 := by omega
        have z2 : (a : Int) + 1 - (a : Int) = 1 := by omega
        go_wp2
        go_loopg [10, 11] (b - (a + 1)) (fun kx s10 s11 wr => ∃ lo hi : Nat, s10 = .int .i64 lo ∧ s11 = .int .i64 hi ∧ a + 1 ≤ lo ∧ lo ≤ hi ∧ hi ≤ b ∧ hi - lo ≤ kx ∧ Aside (SWK enc k w0 blk off d wr) ∧ Hid ((∀ t, a + 1 ≤ t → t < lo → key d[t]! < key d[a]!) ∧ ∀ t, hi ≤ t → t < b → key d[a]! ≤ key d[t]!))
        case atStart => exact ⟨a + 1, b, by go_num, rfl, Nat.le_refl _, by omega, Nat.le_refl _, Nat.le_refl _, S0, ⟨fun t h1 h2 => by omega, fun t h1 h2 => by omega⟩⟩
        case round =>
          clear S0
          obtain ⟨lo, hi, rfl, rfl, hlo, hlh, hhi, hkx, S1, HI⟩ := hrel
          by_cases hlt : lo < hi
          · have hltz : (lo : Int) < (hi : Int) := by omega
            obtain ⟨c, hc⟩ : ∃ c, (lo + hi) / 2 = c := ⟨_, rfl⟩
            have hcz : ((lo : Int) + (hi : Int)) / 2 = (c : Int) := by omega
            by_cases hk : key d[c]! < key d[a]!
            · as_aux_lemma =>
                go_wp2_with fail
                have ea50 : ((c : Int)).toNat = c := by omega
                have pa50 : (0 : Int) ≤ (c : Int) := by omega
                have ba50 : (c : Int) < (d.size : Int) := by omega
                have ra50 : IntKind.i64.wrap ((c : Int)) = (c : Int) := by rw [IntKind.wrap_i64]; omega
                have ec50 : ((a : Int)).toNat = a := by omega
                have pc50 : (0 : Int) ≤ (a : Int) := by omega
                have bc50 : (a : Int) < (d.size : Int) := by omega
                have rc50 : IntKind.i64.wrap ((a : Int)) = (a : Int) := by rw [IntKind.wrap_i64]; omega
                obtain ⟨x50, hx50⟩ : ∃ x, x = d[c]! := ⟨_, rfl⟩
                obtain ⟨y50, hy50⟩ : ∃ x, x = d[a]! := ⟨_, rfl⟩
                have l50a := S1.out.ld R (by omega) P c (by omega)
                have l50b := S1.out.ld R (by omega) P a (by omega)
                rw [← hx50] at l50a
                rw [← hy50] at l50b
                have hc50 := S1.out.cmp HC.out (by omega) x50 y50
                have hv50 : cf x50 y50 < 0 := by rw [hx50, hy50, CF.out]; omega
                have hd50 : decide (cf x50 y50 < 0) = true := decide_eq_true hv50
                clear hx50 hy50
                go_wp2_with fail
                go_quiet_grown (first | (go_at_fn g; refine Calls.grown_of (hc50 _ _)))
                have S2 : Aside (SWK enc k w0 blk off d (grow (wr.drewN nq) osq)) := S1.out.grown nq osq
                clear l50a l50b hc50 S1
                generalize grow (wr.drewN nq) osq = w2 at S2 ⊢
                clear nq osq
                go_wp2
                go_roundg (hi - (c + 1))
                case measure => omega
                case rel => exact ⟨c + 1, hi, by go_num, rfl, by omega, by omega, hhi, Nat.le_refl _, S2, (show Hid _ from ⟨fun t h1 h2 => by
                  by_cases e : t = c
                  · rw [e]; exact hk
                  · have := HR.out t c (by omega) (by omega) (by omega); omega, HI.out.2⟩)⟩
            · as_aux_lemma =>
                go_wp2_with fail
                have ea51 : ((c : Int)).toNat = c := by omega
                have pa51 : (0 : Int) ≤ (c : Int) := by omega
                have ba51 : (c : Int) < (d.size : Int) := by omega
                have ra51 : IntKind.i64.wrap ((c : Int)) = (c : Int) := by rw [IntKind.wrap_i64]; omega
                have ec51 : ((a : Int)).toNat = a := by omega
                have pc51 : (0 : Int) ≤ (a : Int) := by omega
                have bc51 : (a : Int) < (d.size : Int) := by omega
                have rc51 : IntKind.i64.wrap ((a : Int)) = (a : Int) := by rw [IntKind.wrap_i64]; omega
                obtain ⟨x51, hx51⟩ : ∃ x, x = d[c]! := ⟨_, rfl⟩
                obtain ⟨y51, hy51⟩ : ∃ x, x = d[a]! := ⟨_, rfl⟩
                have l51a := S1.out.ld R (by omega) P c (by omega)
                have l51b := S1.out.ld R (by omega) P a (by omega)
                rw [← hx51] at l51a
                rw [← hy51] at l51b
                have hc51 := S1.out.cmp HC.out (by omega) x51 y51
                have hv51 : ¬ cf x51 y51 < 0 := by rw [hx51, hy51, CF.out]; omega
                have hd51 : decide (cf x51 y51 < 0) = false := decide_eq_false hv51
                clear hx51 hy51
                go_wp2_with fail
                go_quiet_grown (first | (go_at_fn g; refine Calls.grown_of (hc51 _ _)))
                have S2 : Aside (SWK enc k w0 blk off d (grow (wr.drewN nq) osq)) := S1.out.grown nq osq
                clear l51a l51b hc51 S1
                generalize grow (wr.drewN nq) osq = w2 at S2 ⊢
                clear nq osq
                go_wp2
                go_roundg (c - lo)
                case measure => omega
                case rel => exact ⟨lo, c, rfl, by go_num, hlo, by omega, by omega, Nat.le_refl _, S2, (show Hid _ from ⟨HI.out.1, fun t h1 h2 => by
                  by_cases e : t = c
                  · rw [e]; omega
                  · have := HR.out c t (by omega) (by omega) (by omega); omega⟩)⟩
          · have hltz : ¬ (lo : Int) < (hi : Int) := by omega
            obtain rfl : hi = lo := by omega
            go_wp2
            go_loopg [13] (hi - a) (fun kx s13 wr => ∃ (q : Nat) (dk : Array α), s13 = .int .i64 q ∧ a ≤ q ∧ q + 1 ≤ hi ∧ hi - q ≤ kx ∧ dk.size = d.size ∧ Aside (SWK enc k w0 blk off dk wr) ∧ Hid (∀ t, t < d.size → dk[t]! = d[exI a (a + 1) (q + 1) t]!))
            case atStart => exact ⟨a, d, rfl, Nat.le_refl _, by omega, Nat.le_refl _, rfl, S1, (show Hid _ from fun t _ => by rw [exI_right _ _ _ (by omega)])⟩
            case round =>
              clear S1
              obtain ⟨q, dk, rfl, hq1, hq2, hkx2, hds, S1, HD⟩ := hrel
              by_cases hql : q + 1 < hi
              · have hltz : (q : Int) < (hi : Int) - 1 := by omega
                go_wp2_with fail
                have ea76 : ((q : Int)).toNat = q := by omega
                have pa76 : (0 : Int) ≤ (q : Int) := by omega
                have ba76 : (q : Int) < (d.size : Int) := by omega
                have ra76 : IntKind.i64.wrap ((q : Int)) = (q : Int) := by rw [IntKind.wrap_i64]; omega
                have ec76 : ((q : Int) + 1).toNat = q + 1 := by omega
                have pc76 : (0 : Int) ≤ (q : Int) + 1 := by omega
                have bc76 : (q : Int) + 1 < (d.size : Int) := by omega
                have rc76 : IntKind.i64.wrap ((q : Int) + 1) = (q : Int) + 1 := by rw [IntKind.wrap_i64]; omega
                have S2 : Aside (SWK enc k w0 blk off (swp dk q (q + 1)) ((wr.drew.setCells blk (off + q * k) (enc dk[q + 1]!)).setCells blk (off + (q + 1) * k) (enc dk[q]!))) := S1.out.swapped R q (q + 1) (by omega) (by omega)
                have l76a := S1.out.ld1 R (by omega) P q (by omega)
                have l76b := S1.out.ld1 R (by omega) P (q + 1) (by omega)
                have s76a := S1.out.st1 R (by omega) P q (by omega) dk[q + 1]!
                have s76b := S1.out.st2 R (by omega) P q (q + 1) (by omega) (by omega) dk[q + 1]! dk[q]!
                have n76a : (enc dk[q]!).length = k := R.hk _
                have n76b : (enc dk[q + 1]!).length = k := R.hk _
                generalize enc dk[q]! = cI76 at S2 l76a s76b n76a
                generalize enc dk[q + 1]! = cJ76 at S2 l76b s76a s76b n76b
                clear S1
                go_wp2_with fail
                go_big_region_o
                clear l76a l76b s76a s76b
                generalize (wr.drew.setCells blk (off + q * k) cJ76).setCells blk (off + (q + 1) * k) cI76 = w2 at S2 ⊢
                go_wp2
                go_roundg (hi - (q + 1))
                case measure => omega
                case rel => exact ⟨q + 1, swp dk q (q + 1), by go_num, by omega, by omega, Nat.le_refl _, by rw [size_swp]; exact hds, S2, (show Hid _ from up_step hds hq1 (by omega) HD.out)⟩
              · have hltz : ¬ (q : Int) < (hi : Int) - 1 := by omega
                go_wp2
                (try simp only [Exit.inBlock, Exit.then]); refine bodyPost_ret (results_none rfl _ _ _) rfl ?_
                have e : q + 1 = hi := by omega
                rw [e] at HD
                exact ⟨rfl, dk, merge_up hlo hhi hb hds HD.out HR.out (fun j h1 h2 => HI.out.1 j h1 h2) (fun j h1 h2 => HI.out.2 j h1 h2), S1.out⟩
    · have c1z : ¬ (m : Int) - (a : Int) = 1 := by omega
      have c1b : ((m : Int) - (a : Int) == 1) = false := by simp [c1z]
      by_cases c2 : b = m + 1
      · as_aux_lemma =>
          have hb1 : b ≤ m + 1 := by omega
          have z1 : (b : Int) - (m : Int) = 1 := by omega
          have C2 := hid c2
          clear IH c2
          go_wp2
          go_loopg [14, 15] (m - a) (fun kx s14 s15 wr => ∃ lo hi : Nat, s14 = .int .i64 lo ∧ s15 = .int .i64 hi ∧ a ≤ lo ∧ lo ≤ hi ∧ hi ≤ m ∧ hi - lo ≤ kx ∧ Aside (SWK enc k w0 blk off d wr) ∧ Hid ((∀ t, a ≤ t → t < lo → key d[t]! ≤ key d[m]!) ∧ ∀ t, hi ≤ t → t < m → key d[m]! < key d[t]!))
          case atStart => exact ⟨a, m, rfl, rfl, Nat.le_refl _, by omega, Nat.le_refl _, Nat.le_refl _, S0, ⟨fun t h1 h2 => by omega, fun t h1 h2 => by omega⟩⟩
          case round =>
            clear S0
            obtain ⟨lo, hi, rfl, rfl, hlo, hlh, hhi, hkx, S1, HI⟩ := hrel
            by_cases hlt : lo < hi
            · have hltz : (lo : Int) < (hi : Int) := by omega
              obtain ⟨c, hc⟩ : ∃ c, (lo + hi) / 2 = c := ⟨_, rfl⟩
              have hcz : ((lo : Int) + (hi : Int)) / 2 = (c : Int) := by omega
              by_cases hk : key d[m]! < key d[c]!
              · as_aux_lemma =>
                  go_wp2_with fail
                  have ea60 : ((m : Int)).toNat = m := by omega
                  have pa60 : (0 : Int) ≤ (m : Int) := by omega
                  have ba60 : (m : Int) < (d.size : Int) := by omega
                  have ra60 : IntKind.i64.wrap ((m : Int)) = (m : Int) := by rw [IntKind.wrap_i64]; omega
                  have ec60 : ((c : Int)).toNat = c := by omega
                  have pc60 : (0 : Int) ≤ (c : Int) := by omega
                  have bc60 : (c : Int) < (d.size : Int) := by omega
                  have rc60 : IntKind.i64.wrap ((c : Int)) = (c : Int) := by rw [IntKind.wrap_i64]; omega
                  obtain ⟨x60, hx60⟩ : ∃ x, x = d[m]! := ⟨_, rfl⟩
                  obtain ⟨y60, hy60⟩ : ∃ x, x = d[c]! := ⟨_, rfl⟩
                  have l60a := S1.out.ld R (by omega) P m (by omega)
                  have l60b := S1.out.ld R (by omega) P c (by omega)
                  rw [← hx60] at l60a
                  rw [← hy60] at l60b
                  have hc60 := S1.out.cmp HC.out (by omega) x60 y60
                  have hv60 : cf x60 y60 < 0 := by rw [hx60, hy60, CF.out]; omega
                  have hd60 : decide (cf x60 y60 < 0) = true := decide_eq_true hv60
                  clear hx60 hy60
                  go_wp2_with fail
                  go_quiet_grown (first | (go_at_fn g; refine Calls.grown_of (hc60 _ _)))
                  have S2 : Aside (SWK enc k w0 blk off d (grow (wr.drewN nq) osq)) := S1.out.grown nq osq
                  clear l60a l60b hc60 S1
                  generalize grow (wr.drewN nq) osq = w2 at S2 ⊢
                  clear nq osq
                  go_wp2
                  go_roundg (c - lo)
                  case measure => omega
                  case rel => exact ⟨lo, c, rfl, by go_num, hlo, by omega, by omega, Nat.le_refl _, S2, (show Hid _ from ⟨HI.out.1, fun t h1 h2 => by
                    by_cases e : t = c
                    · rw [e]; exact hk
                    · have := HL.out c t (by omega) (by omega) (by omega); omega⟩)⟩
              · as_aux_lemma =>
                  go_wp2_with fail
                  have ea61 : ((m : Int)).toNat = m := by omega
                  have pa61 : (0 : Int) ≤ (m : Int) := by omega
                  have ba61 : (m : Int) < (d.size : Int) := by omega
                  have ra61 : IntKind.i64.wrap ((m : Int)) = (m : Int) := by rw [IntKind.wrap_i64]; omega
                  have ec61 : ((c : Int)).toNat = c := by omega
                  have pc61 : (0 : Int) ≤ (c : Int) := by omega
                  have bc61 : (c : Int) < (d.size : Int) := by omega
                  have rc61 : IntKind.i64.wrap ((c : Int)) = (c : Int) := by rw [IntKind.wrap_i64]; omega
                  obtain ⟨x61, hx61⟩ : ∃ x, x = d[m]! := ⟨_, rfl⟩
                  obtain ⟨y61, hy61⟩ : ∃ x, x = d[c]! := ⟨_, rfl⟩
                  have l61a := S1.out.ld R (by omega) P m (by omega)
                  have l61b := S1.out.ld R (by omega) P c (by omega)
                  rw [← hx61] at l61a
                  rw [← hy61] at l61b
                  have hc61 := S1.out.cmp HC.out (by omega) x61 y61
                  have hv61 : ¬ cf x61 y61 < 0 := by rw [hx61, hy61, CF.out]; omega
                  have hd61 : decide (cf x61 y61 < 0) = false := decide_eq_false hv61
                  clear hx61 hy61
                  go_wp2_with fail
                  go_quiet_grown (first | (go_at_fn g; refine Calls.grown_of (hc61 _ _)))
                  have S2 : Aside (SWK enc k w0 blk off d (grow (wr.drewN nq) osq)) := S1.out.grown nq osq
                  clear l61a l61b hc61 S1
                  generalize grow (wr.drewN nq) osq = w2 at S2 ⊢
                  clear nq osq
                  go_wp2
                  go_roundg (hi - (c + 1))
                  case measure => omega
                  case rel => exact ⟨c + 1, hi, by go_num, rfl, by omega, by omega, hhi, Nat.le_refl _, S2, (show Hid _ from ⟨fun t h1 h2 => by
                    by_cases e : t = c
                    · rw [e]; omega
                    · have := HL.out t c (by omega) (by omega) (by omega); omega, HI.out.2⟩)⟩
            · have hltz : ¬ (lo : Int) < (hi : Int) := by omega
              obtain rfl : hi = lo := by omega
              go_wp2
              go_loopg [17] (m - hi) (fun kx s17 wr => ∃ (q : Nat) (dk : Array α), s17 = .int .i64 q ∧ hi ≤ q ∧ q ≤ m ∧ q - hi ≤ kx ∧ dk.size = d.size ∧ Aside (SWK enc k w0 blk off dk wr) ∧ Hid (∀ t, t < d.size → dk[t]! = d[exI q m (m + 1) t]!))
              case atStart => exact ⟨m, d, rfl, by omega, Nat.le_refl _, Nat.le_refl _, rfl, S1, (show Hid _ from fun t _ => by rw [exI_left])⟩
              case round =>
                clear S1
                obtain ⟨q, dk, rfl, hq1, hq2, hkx2, hds, S1, HD⟩ := hrel
                by_cases hql : hi < q
                · obtain ⟨q, rfl⟩ : ∃ p, q = p + 1 := ⟨q - 1, by omega⟩
                  have hltz : (hi : Int) < (q : Int) + 1 := by omega
                  go_wp2_with fail
                  have ea77 : ((q : Int) + 1).toNat = q + 1 := by omega
                  have pa77 : (0 : Int) ≤ (q : Int) + 1 := by omega
                  have ba77 : (q : Int) + 1 < (d.size : Int) := by omega
                  have ra77 : IntKind.i64.wrap ((q : Int) + 1) = (q : Int) + 1 := by rw [IntKind.wrap_i64]; omega
                  have ec77 : ((q : Int)).toNat = q := by omega
                  have pc77 : (0 : Int) ≤ (q : Int) := by omega
                  have bc77 : (q : Int) < (d.size : Int) := by omega
                  have rc77 : IntKind.i64.wrap ((q : Int)) = (q : Int) := by rw [IntKind.wrap_i64]; omega
                  have S2 : Aside (SWK enc k w0 blk off (swp dk (q + 1) q) ((wr.drew.setCells blk (off + (q + 1) * k) (enc dk[q]!)).setCells blk (off + q * k) (enc dk[q + 1]!))) := S1.out.swapped R (q + 1) q (by omega) (by omega)
                  have l77a := S1.out.ld1 R (by omega) P (q + 1) (by omega)
                  have l77b := S1.out.ld1 R (by omega) P q (by omega)
                  have s77a := S1.out.st1 R (by omega) P (q + 1) (by omega) dk[q]!
                  have s77b := S1.out.st2 R (by omega) P (q + 1) q (by omega) (by omega) dk[q]! dk[q + 1]!
                  have n77a : (enc dk[q + 1]!).length = k := R.hk _
                  have n77b : (enc dk[q]!).length = k := R.hk _
                  generalize enc dk[q + 1]! = cI77 at S2 l77a s77b n77a
                  generalize enc dk[q]! = cJ77 at S2 l77b s77a s77b n77b
                  clear S1
                  go_wp2_with fail
                  go_big_region_o
                  clear l77a l77b s77a s77b
                  generalize (wr.drew.setCells blk (off + (q + 1) * k) cJ77).setCells blk (off + q * k) cI77 = w2 at S2 ⊢
                  go_wp2
                  go_roundg (q - hi)
                  case measure => omega
                  case rel => exact ⟨q, swp dk (q + 1) q, by first | rfl | go_num | (congr 1; omega), by omega, by omega, Nat.le_refl _, by rw [size_swp]; exact hds, S2, (show Hid _ from down_step hds (by omega) (by omega) HD.out)⟩
                · have hltz : ¬ (hi : Int) < (q : Int) := by omega
                  go_wp2
                  (try simp only [Exit.inBlock, Exit.then]); refine bodyPost_ret (results_none rfl _ _ _) rfl ?_
                  have e : q = hi := by omega
                  rw [e] at HD
                  rw [C2.out]
                  exact ⟨rfl, dk, merge_down hlo hhi (by omega) hds HD.out HL.out (fun j h1 h2 => HI.out.2 j h1 h2) (fun j h1 h2 => HI.out.1 j h1 h2), S1.out⟩
      · as_aux_lemma =>
          have c2z : ¬ (b : Int) - (m : Int) = 1 := by omega
          have c2b : ((b : Int) - (m : Int) == 1) = false := by simp [c2z]
          obtain ⟨mid, hmid⟩ : ∃ q, (a + b) / 2 = q := ⟨_, rfl⟩
          have hmz : ((a : Int) + (b : Int)) / 2 = (mid : Int) := by omega
          have am : a < mid := by omega
          have mb : mid < b := by omega
          have HM := hid hmid
          clear hmid
          go_upto_if 140 with fail
          go_cut [20, 21] (fun u v wx => ∃ s0 r0 : Nat, u = .int .i64 s0 ∧ v = .int .i64 r0 ∧ wx = w ∧ Hid ((mid < m ∧ s0 = mid + m - b ∧ r0 = mid) ∨ (m ≤ mid ∧ s0 = a ∧ r0 = m)))
          case first =>
            as_aux_lemma =>
              by_cases hgt : mid < m
              · have hgz : (mid : Int) < (m : Int) := by omega
                go_wp2_with fail
                go_meet
                case rel => exact ⟨mid + m - b, mid, by congr 1; omega, rfl, rfl, .inl ⟨hgt, rfl, rfl⟩⟩
              · have hgz : ¬ (mid : Int) < (m : Int) := by omega
                go_wp2_with fail
                go_meet
                case rel => exact ⟨a, m, rfl, rfl, rfl, .inr ⟨by omega, rfl, rfl⟩⟩
          case rest =>
            as_aux_lemma =>
              obtain ⟨s0, r0, rfl, rfl, rfl, HS⟩ := hcut
              have hs0 : a ≤ s0 ∧ s0 ≤ r0 ∧ r0 ≤ m ∧ r0 ≤ mid ∧ mid + m ≤ b + s0 := by have := HS.out; have := HM.out; omega
              obtain ⟨hs1, hs2, hs3, hs4, hs5⟩ := hs0
              go_wp2
              go_loopg [20, 21] (r0 - s0) (fun kx s20 s21 wr => ∃ lo hi : Nat, s20 = .int .i64 lo ∧ s21 = .int .i64 hi ∧ s0 ≤ lo ∧ lo ≤ hi ∧ hi ≤ r0 ∧ hi - lo ≤ kx ∧ Aside (SWK enc k w0 blk off d wr) ∧ Hid ((lo = s0 ∨ key d[lo - 1]! ≤ key d[mid + m - lo]!) ∧ (hi = r0 ∨ key d[mid + m - 1 - hi]! < key d[hi]!)))
              case atStart => exact ⟨s0, r0, rfl, rfl, Nat.le_refl _, hs2, Nat.le_refl _, Nat.le_refl _, S0, ⟨.inl rfl, .inl rfl⟩⟩
              case round =>
                clear S0
                obtain ⟨lo, hi, rfl, rfl, hlo, hlh, hhi, hkx, S1, HI⟩ := hrel
                by_cases hlt : lo < hi
                · have hltz : (lo : Int) < (hi : Int) := by omega
                  obtain ⟨c, hc⟩ : ∃ c, (lo + hi) / 2 = c := ⟨_, rfl⟩
                  have hcz : ((lo : Int) + (hi : Int)) / 2 = (c : Int) := by omega
                  have hcr : c < r0 := by omega
                  have hcs : s0 ≤ c := by omega
                  obtain ⟨q, hq⟩ : ∃ q, mid + m - 1 - c = q := ⟨_, rfl⟩
                  have hqz : (mid : Int) + (m : Int) - 1 - (c : Int) = (q : Int) := by omega
                  have hqm : m ≤ q ∧ q < b := by have := HS.out; have := HM.out; omega
                  obtain ⟨hq1, hq2⟩ := hqm
                  by_cases hk : key d[q]! < key d[c]!
                  · as_aux_lemma =>
                      go_wp2_with fail
                      have ea70 : ((q : Int)).toNat = q := by omega
                      have pa70 : (0 : Int) ≤ (q : Int) := by omega
                      have ba70 : (q : Int) < (d.size : Int) := by omega
                      have ra70 : IntKind.i64.wrap ((q : Int)) = (q : Int) := by rw [IntKind.wrap_i64]; omega
                      have ec70 : ((c : Int)).toNat = c := by omega
                      have pc70 : (0 : Int) ≤ (c : Int) := by omega
                      have bc70 : (c : Int) < (d.size : Int) := by omega
                      have rc70 : IntKind.i64.wrap ((c : Int)) = (c : Int) := by rw [IntKind.wrap_i64]; omega
                      obtain ⟨x70, hx70⟩ : ∃ x, x = d[q]! := ⟨_, rfl⟩
                      obtain ⟨y70, hy70⟩ : ∃ x, x = d[c]! := ⟨_, rfl⟩
                      have l70a := S1.out.ld R (by omega) P q (by omega)
                      have l70b := S1.out.ld R (by omega) P c (by omega)
                      rw [← hx70] at l70a
                      rw [← hy70] at l70b
                      have hc70 := S1.out.cmp HC.out (by omega) x70 y70
                      have hv70 : cf x70 y70 < 0 := by rw [hx70, hy70, CF.out]; omega
                      have hd70 : decide (cf x70 y70 < 0) = true := decide_eq_true hv70
                      clear hx70 hy70
                      go_wp2_with fail
                      go_quiet_grown (first | (go_at_fn g; refine Calls.grown_of (hc70 _ _)))
                      have S2 : Aside (SWK enc k w0 blk off d (grow (wr.drewN nq) osq)) := S1.out.grown nq osq
                      clear l70a l70b hc70 S1
                      generalize grow (wr.drewN nq) osq = w2 at S2 ⊢
                      clear nq osq
                      go_wp2
                      go_roundg (c - lo)
                      case measure => omega
                      case rel => exact ⟨lo, c, rfl, by go_num, hlo, by omega, by omega, Nat.le_refl _, S2, (show Hid _ from ⟨HI.out.1, .inr (by rw [hq]; exact hk)⟩)⟩
                  · as_aux_lemma =>
                      go_wp2_with fail
                      have ea71 : ((q : Int)).toNat = q := by omega
                      have pa71 : (0 : Int) ≤ (q : Int) := by omega
                      have ba71 : (q : Int) < (d.size : Int) := by omega
                      have ra71 : IntKind.i64.wrap ((q : Int)) = (q : Int) := by rw [IntKind.wrap_i64]; omega
                      have ec71 : ((c : Int)).toNat = c := by omega
                      have pc71 : (0 : Int) ≤ (c : Int) := by omega
                      have bc71 : (c : Int) < (d.size : Int) := by omega
                      have rc71 : IntKind.i64.wrap ((c : Int)) = (c : Int) := by rw [IntKind.wrap_i64]; omega
                      obtain ⟨x71, hx71⟩ : ∃ x, x = d[q]! := ⟨_, rfl⟩
                      obtain ⟨y71, hy71⟩ : ∃ x, x = d[c]! := ⟨_, rfl⟩
                      have l71a := S1.out.ld R (by omega) P q (by omega)
                      have l71b := S1.out.ld R (by omega) P c (by omega)
                      rw [← hx71] at l71a
                      rw [← hy71] at l71b
                      have hc71 := S1.out.cmp HC.out (by omega) x71 y71
                      have hv71 : ¬ cf x71 y71 < 0 := by rw [hx71, hy71, CF.out]; omega
                      have hd71 : decide (cf x71 y71 < 0) = false := decide_eq_false hv71
                      clear hx71 hy71
                      go_wp2_with fail
                      go_quiet_grown (first | (go_at_fn g; refine Calls.grown_of (hc71 _ _)))
                      have S2 : Aside (SWK enc k w0 blk off d (grow (wr.drewN nq) osq)) := S1.out.grown nq osq
                      clear l71a l71b hc71 S1
                      generalize grow (wr.drewN nq) osq = w2 at S2 ⊢
                      clear nq osq
                      go_wp2
                      go_roundg (hi - (c + 1))
                      case measure => omega
                      case rel => exact ⟨c + 1, hi, by go_num, rfl, by omega, by omega, hhi, Nat.le_refl _, S2, (show Hid _ from ⟨.inr (by rw [show mid + m - (c + 1) = q by omega, Nat.add_sub_cancel]; omega), HI.out.2⟩)⟩
                · have hltz : ¬ (lo : Int) < (hi : Int) := by omega
                  obtain rfl : hi = lo := by omega
                  have HF := hid (found_of HM.out.symm ham hmb HS.out hlo hhi HI.out.2 HI.out.1)
                  clear HI
                  obtain ⟨e, he⟩ : ∃ e, mid + m - hi = e := ⟨_, rfl⟩
                  have hez : (mid : Int) + (m : Int) - (hi : Int) = (e : Int) := by omega
                  have hem : m ≤ e := by omega
                  have heb : e ≤ b := by omega
                  have hmm : mid ≤ e := by omega
                  go_upto_region 39 with fail
                  go_cut [185] (fun v wx => v = .bool (decide (hi < m ∧ m < e)) ∧ wx = wr)
                  case first =>
                    as_aux_lemma =>
                      by_cases g1 : hi < m
                      · have g1z : (hi : Int) < (m : Int) := by omega
                        by_cases g2 : m < e
                        · have g2z : (m : Int) < (e : Int) := by omega
                          go_wp2_with fail
                          go_meet
                          case rel => exact ⟨by rw [decide_eq_true (show hi < m ∧ m < e from ⟨g1, g2⟩)], rfl⟩
                        · have g2z : ¬ (m : Int) < (e : Int) := by omega
                          go_wp2_with fail
                          go_meet
                          case rel => exact ⟨by rw [decide_eq_false (show ¬ (hi < m ∧ m < e) from fun h => g2 h.2)], rfl⟩
                      · have g1z : ¬ (hi : Int) < (m : Int) := by omega
                        go_wp2_with fail
                        go_meet
                        case rel => exact ⟨by rw [decide_eq_false (show ¬ (hi < m ∧ m < e) from fun h => g1 h.1)], rfl⟩
                  case rest =>
                    as_aux_lemma =>
                      obtain ⟨rfl, rfl⟩ := hcut
                      go_upto_if 185 with fail
                      go_cut [24] (fun v wx => v = .int .i64 e ∧ ∃ d1, Hid (d1.size = d.size ∧ ∀ t, t < d.size → d1[t]! = d[exI hi m e t]!) ∧ Aside (SWK enc k w0 blk off d1 wx))
                      case first =>
                        as_aux_lemma =>
                          by_cases gg : hi < m ∧ m < e
                          · have gz : decide (hi < m ∧ m < e) = true := decide_eq_true gg
                            have hc := rotate_k K0.out FS FR g cb cap hi m e d wc R hs S1.out gg.1 gg.2 (by omega) hsz
                            go_wp2_with (go_at_fn (139); refine hc.mono ?_; rintro e w1 ⟨rfl, d1, hd1, hd2, S2⟩)
                            go_meet
                            case rel => exact ⟨rfl, d1, ⟨hd1, hd2⟩, S2⟩
                          · have gz : decide (hi < m ∧ m < e) = false := decide_eq_false gg
                            go_wp2_with fail
                            go_meet
                            case rel => exact ⟨rfl, d, ⟨rfl, fun t _ => by
                              by_cases e1 : hi < m
                              · rw [show e = m by omega, exI_right _ _ _ (by omega)]
                              · rw [show hi = m by omega, exI_left]⟩, S1⟩
                      case rest =>
                        as_aux_lemma =>
                          obtain ⟨rfl, d1, HD1, S2⟩ := hcut
                          clear S1
                          have hds1 : d1.size = d.size := HD1.out.1
                          have MT := hid (merge_turn HF.out hb HL.out HR.out HD1.out.1 (by rw [he]; exact HD1.out.2))
                          go_upto_region 41 with fail
                          go_cut [199] (fun v wx => v = .bool (decide (a < hi ∧ hi < mid)) ∧ wx = wc)
                          case first =>
                            as_aux_lemma =>
                              by_cases g1 : a < hi
                              · have g1z : (a : Int) < (hi : Int) := by omega
                                by_cases g2 : hi < mid
                                · have g2z : (hi : Int) < (mid : Int) := by omega
                                  go_wp2_with fail
                                  go_meet
                                  case rel => exact ⟨by rw [decide_eq_true (show a < hi ∧ hi < mid from ⟨g1, g2⟩)], rfl⟩
                                · have g2z : ¬ (hi : Int) < (mid : Int) := by omega
                                  go_wp2_with fail
                                  go_meet
                                  case rel => exact ⟨by rw [decide_eq_false (show ¬ (a < hi ∧ hi < mid) from fun h => g2 h.2)], rfl⟩
                              · have g1z : ¬ (a : Int) < (hi : Int) := by omega
                                go_wp2_with fail
                                go_meet
                                case rel => exact ⟨by rw [decide_eq_false (show ¬ (a < hi ∧ hi < mid) from fun h => g1 h.1)], rfl⟩
                          case rest =>
                            as_aux_lemma =>
                              obtain ⟨rfl, rfl⟩ := hcut
                              go_upto_if 199 with fail
                              go_cut [24] (fun v wx => v = .int .i64 e ∧ ∃ d2, Hid (MergeOut key a mid d1 d2) ∧ Aside (SWK enc k w0 blk off d2 wx))
                              case first =>
                                as_aux_lemma =>
                                  by_cases gg : a < hi ∧ hi < mid
                                  · have gz : decide (a < hi ∧ hi < mid) = true := decide_eq_true gg
                                    have hc := IH.out a hi mid d1 wc (by omega) (by omega) S2.out gg.1 gg.2 (by omega) (by omega) MT.out.1 MT.out.2.1
                                    rw [hds1] at hc
                                    go_wp2_with (go_at_fn (119); refine hc.mono ?_; rintro e w1 ⟨rfl, d2, hd2, S3⟩)
                                    go_meet
                                    case rel => exact ⟨rfl, d2, hd2, S3⟩
                                  · have gz : decide (a < hi ∧ hi < mid) = false := decide_eq_false gg
                                    go_wp2_with fail
                                    go_meet
                                    case rel => exact ⟨rfl, d1, MergeOut.same (by
                                      by_cases e1 : a < hi
                                      · rw [show mid = hi by omega]; exact MT.out.1
                                      · rw [show a = hi by omega]; exact MT.out.2.1), S2⟩
                              case rest =>
                                as_aux_lemma =>
                                  obtain ⟨rfl, d2, HM2, S3⟩ := hcut
                                  clear S2
                                  have hds2 : d2.size = d.size := by rw [HM2.out.size]; exact hds1
                                  have st : ∀ i j, SortedK key i j d1 → mid ≤ i → j ≤ b → SortedK key i j d2 := fun i j h h1 h2 => h.congr (fun t t1 t2 => HM2.out.out t (by omega) (by omega))
                                  have ST := hid st
                                  clear st
                                  by_cases g1 : mid < e
                                  · have g1z : (mid : Int) < (e : Int) := by omega
                                    by_cases g2 : e < b
                                    · have g2z : (e : Int) < (b : Int) := by omega
                                      have hc := IH.out mid e b d2 wc (by omega) (by omega) S3.out g1 g2 (by omega) (by omega) (ST.out _ _ (by rw [← he]; exact MT.out.2.2.1) (Nat.le_refl _) heb) (ST.out _ _ (by rw [← he]; exact MT.out.2.2.2.1) hmm (Nat.le_refl _))
                                      rw [hds2] at hc
                                      go_wp2_with (go_at_fn (119); refine hc.mono ?_; rintro e w1 ⟨rfl, d3, hd3, S4⟩)
                                      (try simp only [Exit.inBlock, Exit.then]); refine bodyPost_end (results_none rfl _ _ _) rfl ?_
                                      exact ⟨rfl, d3, MT.out.2.2.2.2 d2 d3 HM2.out hd3, S4⟩
                                    · have g2z : ¬ (e : Int) < (b : Int) := by omega
                                      go_wp2
                                      (try simp only [Exit.inBlock, Exit.then]); refine bodyPost_end (results_none rfl _ _ _) rfl ?_
                                      exact ⟨rfl, d2, MT.out.2.2.2.2 d2 d2 HM2.out (MergeOut.same (ST.out _ _ (by rw [show b = mid + m - hi by omega]; exact MT.out.2.2.1) (Nat.le_refl _) (Nat.le_refl _))), S3.out⟩
                                  · have g1z : ¬ (mid : Int) < (e : Int) := by omega
                                    go_wp2
                                    (try simp only [Exit.inBlock, Exit.then]); refine bodyPost_end (results_none rfl _ _ _) rfl ?_
                                    exact ⟨rfl, d2, MT.out.2.2.2.2 d2 d2 HM2.out (MergeOut.same (ST.out _ _ (by rw [show mid = mid + m - hi by omega]; exact MT.out.2.2.2.1) (Nat.le_refl _) (Nat.le_refl _))), S3.out⟩
end Go.Proofs.YtlgmanbilaminaaGreatDoor.S12
