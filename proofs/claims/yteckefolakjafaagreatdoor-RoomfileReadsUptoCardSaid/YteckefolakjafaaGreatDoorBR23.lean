/-
  Small functions of the specification: Digits at four digits. Condition: none.
  The rooms that are known, by their codes: add of rooms. Conditions: the map is one of the call's own, with the codes l; the room's code fits into memory.
  Reading rooms, as mathematics: fields, entries, lists of records. No program.
  Two dots in a part of a list, and the codes of a range: plain mathematics. No program, no conditions.
-/
import Derived.Test.YteckefolakjafaaGreatDoorBR20
import Derived.Test.YteckefolakjafaaGreatDoorBR22
import Derived.Test.YteckefolakjafaaGreatDoorBR15
import Derived.Test.YteckefolakjafaaGreatDoorBR21
import Derived.Test.YteckefolakjafaaGreatDoorBR19
import Derived.Maps.OwnSet
import Derived.Maps.Range
import Derived.WalkKit
import Derived.Sort.EncStr
import Derived.Lib.IndexLaws
set_option linter.unusedVariables false
namespace Go.Proofs.YteckefolakjafaaGreatDoor
open Go Go.Proofs Go.RowKit Go.Lib

/-- What Digits returns at four digits, the first of which is not 0 unless it is the only one. -/
def digP (s : Str) : Int × Bool := if s ≠ [] ∧ s.length ≤ 4 ∧ ¬ (1 < s.length ∧ s.head? = some 48) ∧ s.all S3.dg = true then (((S3.numN s : Nat) : Int), true) else (0, false)
theorem digP_num (s : Str) : (numD 4 s = 0 → (digP s).2 = false ∨ (digP s).1 = 0) ∧ (numD 4 s ≠ 0 → digP s = (((numD 4 s : Nat) : Int), true)) := by
  unfold digP numD
  by_cases h : s ≠ [] ∧ s.length ≤ 4 ∧ ¬ (1 < s.length ∧ s.head? = some 48) ∧ s.all S3.dg = true
  · rw [if_pos h]
    obtain ⟨h1, h2, h3, h4⟩ := h
    by_cases h5 : s.head? = some 48
    · rw [if_neg (fun k => k.2.2.2 h5)]
      refine ⟨fun _ => .inr ?_, fun k => absurd rfl k⟩
      have hl : s.length = 1 := by
        have : s.length ≠ 0 := fun e => h1 (List.eq_nil_of_length_eq_zero e)
        have : ¬ 1 < s.length := fun e => h3 ⟨e, h5⟩
        omega
      obtain ⟨a, rfl⟩ := List.length_eq_one_iff.1 hl
      obtain rfl : a = 48 := by simpa using h5
      rfl
    · rw [if_pos ⟨h1, h2, h4, h5⟩]
      exact ⟨fun k => .inr (by simpa using k), fun _ => rfl⟩
  · rw [if_neg h, if_neg (fun k => h ⟨k.1, k.2.1, fun e => k.2.2.2 e.2, k.2.2.1⟩)]
    exact ⟨fun _ => .inl rfl, fun k => absurd rfl k⟩
set_option maxHeartbeats 4000000 in
set_option maxRecDepth 100000 in
theorem digits4_any (s : ByteArray) (w : World) : Calls Tryz.prog 60 #[.string s, .int .i64 4, .bool true] w fun e w' => e = .returned (.tuple #[.int .i64 (digP (lst s)).1, .bool (digP (lst s)).2]) ∧ w = w' := by
  obtain ⟨R, hR⟩ : ∃ R, digP (lst s) = R := ⟨_, rfl⟩
  rw [hR]
  have hlen : (lst s).length = s.size := (Lib.size_eq s).symm
  have hno : ∀ h : ¬ (lst s ≠ [] ∧ (lst s).length ≤ 4 ∧ ¬ (1 < (lst s).length ∧ (lst s).head? = some 48) ∧ (lst s).all S3.dg = true), R = (0, false) := fun h => by rw [← hR]; exact if_neg h
  by_cases h0 : 0 < s.size
  · obtain ⟨r, hr⟩ := lst_cons h0
    obtain ⟨a, ha⟩ : ∃ a, s[0]'h0 = a := ⟨_, rfl⟩
    rw [ha] at hr
    have hs1 : ¬ (s.size : Int) < 1 := by omega
    by_cases h4 : s.size ≤ 4
    · have hs4 : ¬ (4 : Int) < (s.size : Int) := by omega
      by_cases hz : 1 < s.size ∧ a = 48
      · obtain ⟨hz1, rfl⟩ := hz
        obtain rfl := hno (fun k => k.2.2.1 ⟨by rw [hlen]; exact hz1, by rw [hr]; rfl⟩)
        have hz1' : (1 : Int) < (s.size : Int) := by omega
        clear hno hlen hR hr
        go_enter Tryz.func60, Tryz.ntmps60
        go_wp2
        go_ret2
        exact ⟨rfl, rfl⟩
      · have HNO := hid hno
        have HLEN := hid hlen
        have HALL : Hid ((lst s).all S3.dg = true → R = (((S3.numN (lst s) : Nat) : Int), true)) := hid (fun k => by
          rw [← hR]
          refine if_pos ⟨by rw [hr]; simp, by rw [hlen]; exact h4, fun e => hz ⟨by rw [← hlen]; exact e.1, ?_⟩, k⟩
          have := e.2
          rw [hr] at this
          simpa using this)
        by_cases hq : 1 < s.size
        · have hqz : (1 : Int) < (s.size : Int) := by omega
          have ha48 : ((a.toNat : Int) == 48) = false := by
            rw [beq_eq_false_iff_ne]
            intro e
            exact hz ⟨hq, UInt8.toNat_inj.1 (by show a.toNat = 48; omega)⟩
          clear hq hz hR hno hlen hr
          go_enter Tryz.func60, Tryz.ntmps60
          go_wp2
          go_loop [8] (fun iv => ∃ k : Nat, iv = .int .i64 (k : Int) ∧ k ≤ s.size ∧ Hid (∀ j (h : j < s.size), j < k → S3.dg (s[j]'h) = true)) (fun iv => s.size - (RowKit.intOf iv).toNat)
          case atStart => exact ⟨0, rfl, Nat.zero_le _, hid (fun j _ h => absurd h (Nat.not_lt_zero _))⟩
          case round =>
            obtain ⟨k, rfl, hk, hE⟩ := hrel
            by_cases hlt : k < s.size
            · have hltz : (k : Int) < (s.size : Int) := by omega
              have cD := S3.digit_any (s[k]'hlt)
              have hmem : s[k]'hlt ∈ lst s := List.mem_of_getElem? (S3.lst_get s k hlt)
              obtain ⟨x, hx⟩ : ∃ x, s[k]'hlt = x := ⟨_, rfl⟩
              rw [hx] at cD hmem
              have HXX := hid hx
              clear hx
              cases hv : S3.dg x with
              | false =>
                rw [hv] at cD
                obtain rfl := HNO.out (fun q => by have := List.all_eq_true.1 q.2.2.2 x hmem; rw [hv] at this; cases this)
                clear hv hmem
                have CD := hid cD
                clear cD
                go_wp2_with fail
                (try rw [HXX.out])
                refine (CD.out _).mono ?_
                rintro e w' ⟨rfl, rfl⟩
                go_wp2
                go_ret2
                exact ⟨rfl, rfl⟩
              | true =>
                rw [hv] at cD
                have hst : Hid (∀ j (h : j < s.size), j < k + 1 → S3.dg (s[j]'h) = true) := hid (fun j hj hji => by
                  by_cases e : j < k
                  · exact hE.out j hj e
                  · obtain rfl : j = k := by omega
                    rw [HXX.out]
                    exact hv)
                clear hv hmem
                have CD := hid cD
                clear cD
                go_wp2_with fail
                (try rw [HXX.out])
                refine (CD.out _).mono ?_
                rintro e w' ⟨rfl, rfl⟩
                go_wp2
                go_round
                case rel => exact ⟨k + 1, by go_num, by omega, hst⟩
                case measure => simp [RowKit.intOf]; omega
            · have hltz : ¬ (k : Int) < (s.size : Int) := by omega
              have hd : S3.Dgs (lst s) := fun c hc => by
                obtain ⟨j, hj, e⟩ := List.mem_iff_getElem.1 hc
                have hj' : j < s.size := by rw [← HLEN.out]; exact hj
                have h1 := S3.lst_get s j hj'
                rw [List.getElem?_eq_getElem hj, e] at h1
                injection h1 with h1
                rw [h1]
                exact hE.out j hj' (by omega)
              have cN := S3.number_any s (by omega) hd w
              obtain rfl := HALL.out (List.all_eq_true.2 hd)
              have CN := hid cN
              clear cN hd
              go_wp2_with fail
              refine CN.out.mono ?_
              rintro e w' ⟨rfl, rfl⟩
              go_wp2
              go_ret2
              exact ⟨rfl, rfl⟩
        · have hqz : ¬ (1 : Int) < (s.size : Int) := by omega
          clear hq hz hR hno hlen hr
          go_enter Tryz.func60, Tryz.ntmps60
          go_wp2
          go_loop [8] (fun iv => ∃ k : Nat, iv = .int .i64 (k : Int) ∧ k ≤ s.size ∧ Hid (∀ j (h : j < s.size), j < k → S3.dg (s[j]'h) = true)) (fun iv => s.size - (RowKit.intOf iv).toNat)
          case atStart => exact ⟨0, rfl, Nat.zero_le _, hid (fun j _ h => absurd h (Nat.not_lt_zero _))⟩
          case round =>
            obtain ⟨k, rfl, hk, hE⟩ := hrel
            by_cases hlt : k < s.size
            · have hltz : (k : Int) < (s.size : Int) := by omega
              have cD := S3.digit_any (s[k]'hlt)
              have hmem : s[k]'hlt ∈ lst s := List.mem_of_getElem? (S3.lst_get s k hlt)
              obtain ⟨x, hx⟩ : ∃ x, s[k]'hlt = x := ⟨_, rfl⟩
              rw [hx] at cD hmem
              have HXX := hid hx
              clear hx
              cases hv : S3.dg x with
              | false =>
                rw [hv] at cD
                obtain rfl := HNO.out (fun q => by have := List.all_eq_true.1 q.2.2.2 x hmem; rw [hv] at this; cases this)
                clear hv hmem
                have CD := hid cD
                clear cD
                go_wp2_with fail
                (try rw [HXX.out])
                refine (CD.out _).mono ?_
                rintro e w' ⟨rfl, rfl⟩
                go_wp2
                go_ret2
                exact ⟨rfl, rfl⟩
              | true =>
                rw [hv] at cD
                have hst : Hid (∀ j (h : j < s.size), j < k + 1 → S3.dg (s[j]'h) = true) := hid (fun j hj hji => by
                  by_cases e : j < k
                  · exact hE.out j hj e
                  · obtain rfl : j = k := by omega
                    rw [HXX.out]
                    exact hv)
                clear hv hmem
                have CD := hid cD
                clear cD
                go_wp2_with fail
                (try rw [HXX.out])
                refine (CD.out _).mono ?_
                rintro e w' ⟨rfl, rfl⟩
                go_wp2
                go_round
                case rel => exact ⟨k + 1, by go_num, by omega, hst⟩
                case measure => simp [RowKit.intOf]; omega
            · have hltz : ¬ (k : Int) < (s.size : Int) := by omega
              have hd : S3.Dgs (lst s) := fun c hc => by
                obtain ⟨j, hj, e⟩ := List.mem_iff_getElem.1 hc
                have hj' : j < s.size := by rw [← HLEN.out]; exact hj
                have h1 := S3.lst_get s j hj'
                rw [List.getElem?_eq_getElem hj, e] at h1
                injection h1 with h1
                rw [h1]
                exact hE.out j hj' (by omega)
              have cN := S3.number_any s (by omega) hd w
              obtain rfl := HALL.out (List.all_eq_true.2 hd)
              have CN := hid cN
              clear cN hd
              go_wp2_with fail
              refine CN.out.mono ?_
              rintro e w' ⟨rfl, rfl⟩
              go_wp2
              go_ret2
              exact ⟨rfl, rfl⟩
    · have hs4 : (4 : Int) < (s.size : Int) := by omega
      obtain rfl := hno (fun k => by have := k.2.1; rw [hlen] at this; omega)
      clear hno hlen hR hr
      go_enter Tryz.func60, Tryz.ntmps60
      go_wp2
      go_ret2
      exact ⟨rfl, rfl⟩
  · have hs1 : (s.size : Int) < 1 := by omega
    obtain rfl := hno (fun k => k.1 (lst_nil h0))
    clear hno hlen hR
    go_enter Tryz.func60, Tryz.ntmps60
    go_wp2
    go_ret2
    exact ⟨rfl, rfl⟩
end Go.Proofs.YteckefolakjafaaGreatDoor

set_option linter.unusedVariables false
namespace Go.Proofs.YteckefolakjafaaGreatDoor
open Go Go.Proofs Go.RowKit Go.Lib
open Go.Maps (Keyed string_keyed)
open Go.WideMaps (keyOf_string_mk)

/-- How a room reads in the map of known ones: all that matters is that it is one. -/
def aggR : Value → Option (DataW Unit × List MemPlace)
  | .agg ⟨[.string _, .string _, .int .i64 _, .slice _ _ _, .slice _ _ _]⟩ => some (.agg [], [])
  | _ => none
theorem aggR_mk (a b : ByteArray) (s : Int) (A1 A2 : Option Addr) (n1 c1 n2 c2 : Nat) : aggR (.agg #[.string a, .string b, .int .i64 s, .slice A1 n1 c1, .slice A2 n2 c2]) = some (.agg [], []) := rfl
theorem aggR_inv {v : Value} {z : DataW Unit × List MemPlace} (h : aggR v = some z) : ∃ (a b : ByteArray) (s : Int) (A1 A2 : Option Addr) (n1 c1 n2 c2 : Nat), v = .agg #[.string a, .string b, .int .i64 s, .slice A1 n1 c1, .slice A2 n2 c2] := by
  unfold aggR at h
  split at h
  · exact ⟨_, _, _, _, _, _, _, _, _, rfl⟩
  · cases h
def litS (s : Str) : Lit := .string s
def setR (l : List Str) : DataW Unit := Maps.setOf (.agg []) (l.map litS)
theorem keyLit (s : Str) : WideAt.IsKeyLit (litS s) := by unfold litS; constructor
theorem sameKey_litS (a b : Str) : (litS a).sameKey (litS b) = decide (a = b) := by
  by_cases h : a = b
  · subst h
    rw [WideAt.sameKey_self (keyLit a), decide_eq_true rfl]
  · rw [Maps.sameKey_ne (fun e => h (by unfold litS at e; injection e)), decide_eq_false h]
theorem has_setR (l : List Str) (c : Str) : Maps.has (setR l) (litS c) = decide (c ∈ l) := by
  unfold setR
  rw [Maps.has_setOf _ _ _ (fun x hx => by obtain ⟨s, _, rfl⟩ := List.mem_map.1 hx; exact keyLit s)]
  rw [Bool.eq_iff_iff, List.any_eq_true, decide_eq_true_eq]
  constructor
  · rintro ⟨x, hx, hk⟩
    obtain ⟨s, hs, rfl⟩ := List.mem_map.1 hx
    rw [sameKey_litS, decide_eq_true_eq] at hk
    subst hk
    exact hs
  · intro h
    exact ⟨litS c, List.mem_map.2 ⟨c, h, rfl⟩, by rw [sameKey_litS, decide_eq_true rfl]⟩
theorem setR_snoc (l : List Str) (c : Str) : setR (l ++ [c]) = (setR l).put (litS c) (.agg []) := by
  unfold setR
  rw [List.map_append, List.map_singleton, Maps.setOf_snoc]
/-- Block B is the map of the rooms with the codes l. -/
structure KSet (w : World) (B : Nat) (l : List Str) : Prop where
  own : w.ownsMap Tryz.prog 9 aggR B l.length (setR l)
  sz : Maps.size (setR l) = l.length
theorem KSet.made (w : World) : KSet (w.alloc (.map #[] 0)) w.heap.size [] := ⟨World.ownsMap_made _ _ _ _, rfl⟩
theorem KSet.kept {w w' : World} {B : Nat} {l : List Str} {row : Option Nat} (h : KSet w B l) (hg : w.grownBy w' row) (hne : some B ≠ row) : KSet w' B l := ⟨h.own.kept hg hne, h.sz⟩
theorem below_grown {B : Nat} {w w' : World} (h : Below B w w') (hB : w.heap.size ≤ B) : w.grownBy w' none := ⟨h.os, h.tape, h.output, h.size, fun k hk _ => h.block k (Nat.lt_of_lt_of_le hk hB)⟩
theorem KSet.below {w w' : World} {B : Nat} {l : List Str} (h : KSet w B l) (hb : Below w.heap.size w w') : KSet w' B l := h.kept (below_grown hb (Nat.le_refl _)) (by simp)
theorem KSet.lt {w : World} {B : Nat} {l : List Str} (h : KSet w B l) : B < w.heap.size := h.own.lt
theorem law9 : Keyed Tryz.prog 9 := string_keyed Tryz.underlying9
theorem zeroRoom (w : World) : (zeroValue 46).run Tryz.prog w = .ok (.agg #[.string ⟨#[]⟩, .string ⟨#[]⟩, .int .i64 0, .slice none 0 0, .slice none 0 0]) w := by kernel_rfl
theorem wpList_lookup_room {P : Program} (w : World) {ops : Array Oper} {rest : List Oper} {o : Oper} {a : Act} {Q : Exit → Act → World → Prop} (hg : o.guard = none) (m x : Operand) (t : TypeId) (hop : o.op = Op.lookup t m x true)
    (k e : TypeId) (K : Keyed P k) (ht : P.underlying t = some (.map k e)) {z : Value} (hz : (zeroValue e).run P w = .ok z w) (hzd : aggR z = some (.agg [], [])) (b n : Nat) (D : DataW Unit)
    (hm : a.eval m = .map (some b)) (hown : w.ownsMap P k aggR b n D) (key : Value) (kl : Lit) (hx : a.eval x = key) (hkey : keyOf P k key = some kl)
    (hK : ∀ (x y : ByteArray) (s : Int) (A1 A2 : Option Addr) (n1 c1 n2 c2 : Nat), wpList P ops Q rest (a.put o.dst (.tuple #[.agg #[.string x, .string y, .int .i64 s, .slice A1 n1 c1, .slice A2 n2 c2], .bool (Maps.has D kl)])) w) :
    wpList P ops Q (o :: rest) a w :=
  wpList_lookup_own_ok w hg m x t hop k e K ht aggR hz (.agg []) [] hzd b n D hm hown key kl hx hkey (fun v ps hv => by
    obtain ⟨x, y, s, A1, A2, n1, c1, n2, c2, rfl⟩ := aggR_inv hv
    exact hK x y s A1 A2 n1 c1 n2 c2)
def addM (l : List Str) (c : Str) : List Str × Int := if c ∈ l then (l, 11) else if l.length = 16 then (l, 2) else (l ++ [c], 0)
/-- What add leaves behind. -/
def AddOut (l : List Str) (c : Str) (B : Nat) (w : World) (e : Ending) (w' : World) : Prop := e = .returned (.int .i64 (addM l c).2) ∧ KSet w' B (addM l c).1 ∧ w.grownBy w' (some B)
theorem grown_none {w w' : World} {B : Nat} (h : w.grownBy w' none) : w.grownBy w' (some B) := ⟨h.os, h.tape, h.output, h.size, fun k hk _ => h.block k hk (by simp)⟩

set_option maxHeartbeats 4000000 in
set_option maxRecDepth 100000 in
theorem add_any (B : Nat) (l : List Str) (c : ByteArray) (bd : ByteArray) (st : Int) (A1 : Option Addr) (n1 c1 : Nat) (A2 : Option Addr) (n2 c2 : Nat) (hl : l.length ≤ 16) (hc : c.size ≤ maxLen) (w : World) (h : KSet w B l) :
    Calls Tryz.prog 23 #[.map (some B), .agg #[.string c, .string bd, .int .i64 st, .slice A1 n1 c1, .slice A2 n2 c2]] w (AddOut l (lst c) B w) := by
  unfold AddOut addM
  have hkey : keyOf Tryz.prog 9 (.string c) = some (litS (lst c)) := keyOf_string_mk Tryz.underlying9 hc
  have hhas := has_setR l (lst c)
  have hBl := h.lt
  have h1 := h.below ((Below.refl _ w).alloc (Nat.le_refl _) (.cells #[.string c, .string bd, .int .i64 st, .slice A1 n1 c1, .slice A2 n2 c2] 46))
  have hg0 : w.grownBy (w.alloc (.cells #[.string c, .string bd, .int .i64 st, .slice A1 n1 c1, .slice A2 n2 c2] 46)) none := World.grownBy_alloc w _ none
  have hB1 := Box5.new w (.string c) (.string bd) (.int .i64 st) (.slice A1 n1 c1) (.slice A2 n2 c2)
  have hs1 : (w.alloc (.cells #[.string c, .string bd, .int .i64 st, .slice A1 n1 c1, .slice A2 n2 c2] 46)).heap.size = w.heap.size + 1 := by simp
  have H1 := hid h1
  have HB1 := hid hB1
  have HG0 := hid hg0
  have HS1 := hid hs1
  have HKEY := hid hkey
  clear h1 hB1 hg0 hs1 hkey h
  by_cases hm : lst c ∈ l
  · rw [if_pos hm]
    rw [decide_eq_true hm] at hhas
    have HHAS := hid hhas
    clear hhas
    go_enter Tryz.func23, Tryz.ntmps23
    go_wp2_with (first
      | (at_lookup; refine wpList_lookup_room _ rfl _ _ 58 rfl 9 46 law9 Tryz.underlying58 (zeroRoom _) (aggR_mk _ _ _ _ _ _ _ _ _) B l.length (setR l) rfl H1.out.own _ _ rfl HKEY.out ?_; intro u0 u1 u2 u3 u4 u5 u6 u7 u8; rw [HHAS.out])
      | go_in)
    go_ret
    refine ⟨rfl, H1.out.below ((Below.refl _ _).alloc (Nat.le_refl _) _), ?_⟩
    exact grown_none (HG0.out.andThen (World.grownBy_alloc _ _ none) (by simp))
  · rw [if_neg hm]
    rw [decide_eq_false hm] at hhas
    have HHAS := hid hhas
    have hsz := H1.out.sz
    by_cases h16 : l.length = 16
    · rw [if_pos h16]
      rw [h16] at hsz
      have HSZ := hid hsz
      clear hhas hsz
      go_enter Tryz.func23, Tryz.ntmps23
      go_wp2_with (first
        | (at_lookup; refine wpList_lookup_room _ rfl _ _ 58 rfl 9 46 law9 Tryz.underlying58 (zeroRoom _) (aggR_mk _ _ _ _ _ _ _ _ _) B l.length (setR l) rfl H1.out.own _ _ rfl HKEY.out ?_; intro u0 u1 u2 u3 u4 u5 u6 u7 u8; rw [HHAS.out])
        | (at_len; refine wpList_len_own _ rfl _ 58 rfl 9 46 Tryz.underlying58 aggR B l.length (setR l) rfl (H1.out.own.alloc _) ?_; rw [HSZ.out])
        | go_in)
      go_ret
      refine ⟨rfl, H1.out.below ((Below.refl _ _).alloc (Nat.le_refl _) _), ?_⟩
      exact grown_none (HG0.out.andThen (World.grownBy_alloc _ _ none) (by simp))
    · rw [if_neg h16]
      have HSZ := hid hsz
      have h16z : ((l.length : Nat) : Int) ≠ 16 := by omega
      have h16b : (((l.length : Nat) : Int) == 16) = false := by simpa using h16z
      clear hhas hsz
      go_enter Tryz.func23, Tryz.ntmps23
      go_wp2_with (first
        | (at_lookup; refine wpList_lookup_room _ rfl _ _ 58 rfl 9 46 law9 Tryz.underlying58 (zeroRoom _) (aggR_mk _ _ _ _ _ _ _ _ _) B l.length (setR l) rfl H1.out.own _ _ rfl HKEY.out ?_; intro u0 u1 u2 u3 u4 u5 u6 u7 u8; rw [HHAS.out])
        | (at_len; refine wpList_len_own _ rfl _ 58 rfl 9 46 Tryz.underlying58 aggR B l.length (setR l) rfl (H1.out.own.alloc _) ?_; rw [HSZ.out])
        | (at_mapUpdate; refine wpList_mapUpdate_own _ rfl _ _ _ 58 rfl 9 46 law9 Tryz.underlying58 aggR B l.length (setR l) rfl (H1.out.own.alloc _) (by unfold maxLen; omega) _ _ _ rfl rfl HKEY.out _ [] (aggR_mk _ _ _ _ _ _ _ _ _) ?_; intro w1 hown1 hgrow1)
        | go_in)
      go_ret
      refine ⟨rfl, ⟨?_, ?_⟩, ?_⟩
      · rw [setR_snoc, List.length_append, List.length_singleton]
        exact hown1
      · rw [setR_snoc, Maps.size_put (H1.out.own.tidy law9), HHAS.out, HSZ.out, List.length_append, List.length_singleton]
        rfl
      · exact (grown_none (HG0.out.andThen (World.grownBy_alloc _ _ none) (by simp))).andThen hgrow1 (fun j hj => .inr hj)
end Go.Proofs.YteckefolakjafaaGreatDoor

set_option linter.unusedVariables false
namespace Go.Proofs.YteckefolakjafaaGreatDoor
open Go Go.Proofs Go.RowKit Go.Lib

def sortS (l : List Str) : List Str := l.mergeSort fun x y => decide (x ≤ y)
theorem sortS_len (l : List Str) : (sortS l).length = l.length := by unfold sortS; exact List.length_mergeSort l
def seatsM (s : Str) : Int × Int := if numD 4 s = 0 then (0, 4) else ((numD 4 s : Nat), 0)
def featsM (s : Str) : List Str × Int := if (S3.listM s).2 ≠ 0 then ([], (S3.listM s).2) else if 8 < (S3.listM s).1.length then ([], 2) else (sortS (S3.listM s).1, 0)
def tgo (d s b m n : Int) : List Str → List TimeD → List TimeD × Int
  | [], acc => (acc, 0)
  | p :: ps, acc => if (timeM d s b m n p).2 ≠ 0 then ([], (timeM d s b m n p).2) else tgo d s b m n ps (acc ++ [(timeM d s b m n p).1])
def timesM (d s b m n : Int) (x : Str) : List TimeD × Int :=
  if x = [] then ([], 0) else if (tgo d s b m n (S3.splitL x) []).2 ≠ 0 then ([], (tgo d s b m n (S3.splitL x) []).2)
  else if 24 < (tgo d s b m n (S3.splitL x) []).1.length then ([], 2) else ((tgo d s b m n (S3.splitL x) []).1, 0)
theorem tgo_app (d s b m n : Int) : ∀ (ps : List Str) (acc : List TimeD) (qs : List Str), (tgo d s b m n ps acc).2 = 0 → tgo d s b m n (ps ++ qs) acc = tgo d s b m n qs (tgo d s b m n ps acc).1
  | [], acc, qs, _ => rfl
  | p :: ps, acc, qs, h => by
    simp only [tgo, List.cons_append] at h ⊢
    by_cases hc : (timeM d s b m n p).2 = 0
    · rw [if_neg (by simpa using hc)] at h ⊢
      rw [if_neg (by simpa using hc)]
      exact tgo_app d s b m n ps _ qs h
    · rw [if_pos hc] at h
      exact absurd h hc
theorem tgo_len (d s b m n : Int) : ∀ (ps : List Str) (acc : List TimeD), (tgo d s b m n ps acc).2 = 0 → (tgo d s b m n ps acc).1.length = acc.length + ps.length
  | [], acc, _ => by simp [tgo]
  | p :: ps, acc, h => by
    simp only [tgo] at h ⊢
    by_cases hc : (timeM d s b m n p).2 = 0
    · rw [if_neg (by simpa using hc)] at h ⊢
      rw [tgo_len d s b m n ps _ h]
      simp
      omega
    · rw [if_pos hc] at h
      exact absurd h hc
def setF (d s b m n : Int) (i : Nat) (x : Str) (r : RoomD) : RoomD × Int :=
  match i with
  | 0 => if S3.validC x = true then ((x, r.2), 0) else (([], r.2), 10)
  | 1 => if S3.validC x = true then ((r.1, x, r.2.2), 0) else ((r.1, [], r.2.2), 10)
  | 2 => ((r.1, r.2.1, (seatsM x).1, r.2.2.2), (seatsM x).2)
  | 3 => ((r.1, r.2.1, r.2.2.1, (featsM x).1, r.2.2.2.2), (featsM x).2)
  | 4 => ((r.1, r.2.1, r.2.2.1, r.2.2.2.1, (timesM d s b m n x).1), (timesM d s b m n x).2)
  | _ => (r, 0)
def zeroR : RoomD := ([], [], 0, [], [])
def efold (d s b m n : Int) : List FieldD → Nat → RoomD → RoomD × Int × Int
  | [], _, r => (r, 0, 0)
  | f :: fs, i, r => if (setF d s b m n i f.1 r).2 ≠ 0 then ((setF d s b m n i f.1 r).1, f.2.1, (setF d s b m n i f.1 r).2) else efold d s b m n fs (i + 1) (setF d s b m n i f.1 r).1
/-- A room out of the fields of a record; the column of the field in question; the error. -/
def entryM (d s b m n : Int) (fs : List FieldD) : RoomD × Int × Int := if fs.length ≠ 5 then (zeroR, 0, 9) else efold d s b m n fs 0 zeroR
theorem efold_step (d s b m n : Int) (fs : List FieldD) (i : Nat) (h : i < fs.length) (r : RoomD) :
    efold d s b m n (fs.drop i) i r = if (setF d s b m n i fs[i].1 r).2 ≠ 0 then ((setF d s b m n i fs[i].1 r).1, fs[i].2.1, (setF d s b m n i fs[i].1 r).2) else efold d s b m n (fs.drop (i + 1)) (i + 1) (setF d s b m n i fs[i].1 r).1 := by
  rw [List.drop_eq_getElem_cons h, efold]
def addC (l : List RoomD) (c : Str) : Int := if c ∈ codesR l then 11 else if l.length = 16 then 2 else 0
/-- One record more. -/
def recM (d s b m n : Int) (st : List RoomD × List ProbD) (x : RecD) : List RoomD × List ProbD :=
  if (entryM d s b m n x.2).2.2 ≠ 0 then (st.1, st.2 ++ [(x.1, (entryM d s b m n x.2).2.1, (entryM d s b m n x.2).2.2)])
  else if addC st.1 (entryM d s b m n x.2).1.1 ≠ 0 then (st.1, st.2 ++ [(x.1, (entryM d s b m n x.2).2.1, addC st.1 (entryM d s b m n x.2).1.1)])
  else (st.1 ++ [(entryM d s b m n x.2).1], st.2)
def recsM (d s b m n : Int) (l : List RecD) : List RoomD × List ProbD := l.foldl (recM d s b m n) ([], [])
def readM (d s b m n : Int) (l : List RecD) : List RoomD × List ProbD := if frameB d s b m n = true then recsM d s b m n l else ([], [(0, 0, 1)])
theorem recsM_take (d s b m n : Int) (l : List RecD) (i : Nat) (h : i < l.length) : recsM d s b m n (l.take (i + 1)) = recM d s b m n (recsM d s b m n (l.take i)) l[i] := by
  unfold recsM
  rw [List.take_succ_eq_append_getElem h, List.foldl_append]
  rfl
theorem recM_room_len (d s b m n : Int) (st : List RoomD × List ProbD) (x : RecD) (h : st.1.length ≤ 16) : (recM d s b m n st x).1.length ≤ 16 := by
  unfold recM
  split
  · exact h
  · split
    · exact h
    · rename_i h2
      unfold addC at h2
      by_cases h3 : (entryM d s b m n x.2).1.1 ∈ codesR st.1
      · rw [if_pos h3] at h2; simp at h2
      · rw [if_neg h3] at h2
        by_cases h4 : st.1.length = 16
        · rw [if_pos h4] at h2; simp at h2
        · simp; omega
theorem recsM_len (d s b m n : Int) (l : List RecD) : (recsM d s b m n l).1.length ≤ 16 := by
  unfold recsM
  have : ∀ (l : List RecD) (st : List RoomD × List ProbD), st.1.length ≤ 16 → (l.foldl (recM d s b m n) st).1.length ≤ 16 := by
    intro l
    induction l with
    | nil => exact fun st h => h
    | cons x r ih => exact fun st h => ih _ (recM_room_len d s b m n st x h)
  exact this l _ (by simp)
theorem recsM_probs (d s b m n : Int) (l : List RecD) : (recsM d s b m n l).2.length ≤ l.length := by
  unfold recsM
  have : ∀ (l : List RecD) (st : List RoomD × List ProbD), (l.foldl (recM d s b m n) st).2.length ≤ st.2.length + l.length := by
    intro l
    induction l with
    | nil => exact fun st => Nat.le_refl _
    | cons x r ih =>
      intro st
      rw [List.foldl_cons]
      refine Nat.le_trans (ih _) ?_
      have : (recM d s b m n st x).2.length ≤ st.2.length + 1 := by
        unfold recM
        split
        · simp
        · split <;> simp
      simp
      omega
  simpa using this l ([], [])
/-- The codes of the rooms that were read, in the map's words. -/
theorem addM_codes (l : List RoomD) (c : Str) : (addM (codesR l) c).2 = addC l c ∧ (addM (codesR l) c).1 = if addC l c = 0 then codesR l ++ [c] else codesR l := by
  unfold addM addC
  have e : (codesR l).length = l.length := by simp [codesR]
  rw [e]
  by_cases h : c ∈ codesR l
  · rw [if_pos h, if_pos h]; simp
  · rw [if_neg h, if_neg h]
    by_cases h2 : l.length = 16
    · rw [if_pos h2, if_pos h2]; simp
    · rw [if_neg h2, if_neg h2]; simp
end Go.Proofs.YteckefolakjafaaGreatDoor

set_option linter.unusedVariables false
namespace Go.Proofs.YteckefolakjafaaGreatDoor.S3
open Go Go.Lib

/-- How often two dots occur, without overlaps. -/
def cntD : Str → Nat
  | [] => 0
  | [_] => 0
  | a :: b :: r => if a = 46 ∧ b = 46 then cntD r + 1 else cntD (b :: r)
theorem cntD_yes (r : Str) : cntD (46 :: 46 :: r) = cntD r + 1 := if_pos ⟨rfl, rfl⟩
theorem cntD_no {a b : UInt8} (h : ¬ (a = 46 ∧ b = 46)) (r : Str) : cntD (a :: b :: r) = cntD (b :: r) := if_neg h
theorem pre2 (a b : UInt8) (r : Str) : dots2.isPrefixOf (a :: b :: r) = decide (a = 46 ∧ b = 46) := by
  unfold dots2
  simp only [List.isPrefixOf, Bool.and_true]
  rw [Bool.eq_iff_iff]
  simp
  constructor
  · rintro ⟨h1, h2⟩; exact ⟨h1.symm, h2.symm⟩
  · rintro ⟨h1, h2⟩; exact ⟨h1.symm, h2.symm⟩
theorem index_cnt : ∀ (l : Str), 0 ≤ Lib.index l dots2 ↔ 0 < cntD l
  | [] => by simp [Lib.index, dots2, cntD]
  | [a] => by simp [Lib.index, dots2, cntD]
  | a :: b :: r => by
    have ih := index_cnt (b :: r)
    have hge := Lib.index_ge (b :: r) dots2
    unfold Lib.index
    rw [pre2]
    by_cases h : a = 46 ∧ b = 46
    · obtain ⟨rfl, rfl⟩ := h
      rw [cntD_yes]
      simp
    · rw [cntD_no h, decide_eq_false h, if_neg (by simp)]
      by_cases h1 : Lib.index (b :: r) dots2 = -1
      · rw [h1] at ih ⊢
        simpa using ih
      · rw [if_neg (by simpa using h1)]
        rw [← ih]
        omega
theorem contains_cnt (l : Str) : Lib.contains l dots2 = decide (0 < cntD l) := by
  unfold Lib.contains
  exact decide_eq_decide.2 (index_cnt l)
theorem occ2 (l : Str) (i : Nat) (a b : UInt8) (ha : l[i]? = some a) (hb : l[i + 1]? = some b) : Lib.occAt l dots2 i = decide (a = 46 ∧ b = 46) ∧ l.drop i = a :: b :: l.drop (i + 2) := by
  have hi : i < l.length := (List.getElem?_eq_some_iff.1 ha).1
  have hj : i + 1 < l.length := (List.getElem?_eq_some_iff.1 hb).1
  have e : l.drop i = a :: b :: l.drop (i + 2) := by
    rw [List.drop_eq_getElem_cons hi, List.drop_eq_getElem_cons hj]
    rw [List.getElem?_eq_getElem hi] at ha
    rw [List.getElem?_eq_getElem hj] at hb
    injection ha with ha
    injection hb with hb
    rw [ha, hb]
  refine ⟨?_, e⟩
  unfold Lib.occAt
  rw [e, pre2]
/-- What the reference's dots says of a part. -/
structure DotsAt (l : Str) (n : Int) (a : Int) : Prop where
  n : n = (cntD l : Int)
  no : cntD l = 0 → isP l = false
  yes : 0 < cntD l → isP l = true ∧ ∃ k : Nat, a = (k : Int) ∧ befP l = l.take k ∧ aftP l = l.drop (k + 2) ∧ k + 2 ≤ l.length ∧ Lib.contains (aftP l) dots2 = decide (1 < cntD l)
/-- Between two rounds of dots. -/
structure DotsIn (l : Str) (n : Nat) (a : Int) (i : Nat) : Prop where
  cnt : n + cntD (l.drop i) = cntD l
  zero : n = 0 → a = -1 ∧ Lib.NoOcc l dots2 i
  pos : 0 < n → ∃ k : Nat, a = (k : Int) ∧ Lib.index l dots2 = (k : Int) ∧ k + 2 ≤ l.length ∧ cntD l = cntD (l.drop (k + 2)) + 1
theorem DotsIn.start (l : Str) : DotsIn l 0 (-1) 0 := ⟨by simp, fun _ => ⟨rfl, Lib.NoOcc.zero _ _⟩, fun h => by omega⟩
theorem DotsIn.hit {l : Str} {n : Nat} {a : Int} {i : Nat} (h : DotsIn l n a i) (ha : l[i]? = some 46) (hb : l[i + 1]? = some 46) : DotsIn l (n + 1) (if n = 0 then (i : Int) else a) (i + 2) := by
  obtain ⟨ho, hd⟩ := occ2 l i 46 46 ha hb
  have hc := h.cnt
  rw [hd, cntD_yes] at hc
  have hj : i + 1 < l.length := (List.getElem?_eq_some_iff.1 hb).1
  refine ⟨by omega, fun h => by omega, fun _ => ?_⟩
  by_cases hn : n = 0
  · obtain ⟨_, hno⟩ := h.zero hn
    refine ⟨i, if_pos hn, Lib.index_hit hno (by omega) (by rw [ho]; simp), by omega, by omega⟩
  · obtain ⟨k, h1, h2, h3, h4⟩ := h.pos (by omega)
    exact ⟨k, by rw [if_neg hn]; exact h1, h2, h3, h4⟩
theorem DotsIn.miss {l : Str} {n : Nat} {a : Int} {i : Nat} (h : DotsIn l n a i) {x y : UInt8} (ha : l[i]? = some x) (hb : l[i + 1]? = some y) (hne : ¬ (x = 46 ∧ y = 46)) : DotsIn l n a (i + 1) := by
  obtain ⟨ho, hd⟩ := occ2 l i x y ha hb
  have hj : i + 1 < l.length := (List.getElem?_eq_some_iff.1 hb).1
  have e : l.drop (i + 1) = y :: l.drop (i + 2) := by
    rw [List.drop_eq_getElem_cons hj]
    rw [List.getElem?_eq_getElem hj] at hb
    injection hb with hb
    rw [hb]
  have hc := h.cnt
  rw [hd, cntD_no hne, ← e] at hc
  refine ⟨hc, fun hn => ?_, h.pos⟩
  obtain ⟨h1, h2⟩ := h.zero hn
  exact ⟨h1, h2.succ (by rw [ho]; simpa using hne)⟩
theorem DotsIn.done {l : Str} {n : Nat} {a : Int} {i : Nat} (h : DotsIn l n a i) (hi : l.length ≤ i + 1) : DotsAt l (n : Int) a := by
  have hz : cntD (l.drop i) = 0 := by
    have hl : (l.drop i).length ≤ 1 := by simp; omega
    match hm : l.drop i, hl with
    | [], _ => rfl
    | [x], _ => rfl
    | x :: y :: r, hl => simp at hl
  have hc := h.cnt
  rw [hz, Nat.add_zero] at hc
  refine ⟨by omega, fun h0 => ?_, fun h0 => ?_⟩
  · unfold isP Lib.cut
    rw [if_neg (by rw [index_cnt]; omega)]
  · obtain ⟨k, h1, h2, h3, h4⟩ := h.pos (by omega)
    have hcut : Lib.cut l dots2 = (l.take k, l.drop (k + 2), true) := by
      unfold Lib.cut
      rw [if_pos (by omega), h2]
      rfl
    refine ⟨by unfold isP; rw [hcut], k, h1, by unfold befP; rw [hcut], by unfold aftP; rw [hcut], h3, ?_⟩
    have : aftP l = l.drop (k + 2) := by unfold aftP; rw [hcut]
    rw [this, contains_cnt]
    exact decide_eq_decide.2 (by omega)

/-! ### the codes of a range are codes -/
theorem dec_mono2 : ∀ (k m : Nat), m ≤ k → (decDigits m).length ≤ (decDigits k).length := fun k => by
  induction k using Nat.strongRecOn with
  | ind k ih =>
    intro m hm
    by_cases hk : k < 10
    · rw [dec_small hk, dec_small (show m < 10 by omega)]
      simp
    · by_cases hm' : m < 10
      · rw [dec_small hm']
        have := dec_pos k
        simpa using this
      · obtain ⟨a, b, ha, hb, rfl⟩ : ∃ a b, 1 ≤ a ∧ b < 10 ∧ k = 10 * a + b := ⟨k / 10, k % 10, by omega, by omega, by omega⟩
        obtain ⟨c, d, hc, hd, rfl⟩ : ∃ c d, 1 ≤ c ∧ d < 10 ∧ m = 10 * c + d := ⟨m / 10, m % 10, by omega, by omega, by omega⟩
        rw [dec_step a b ha hb, dec_step c d hc hd, List.length_append, List.length_append]
        have := ih a (by omega) c (by omega)
        simpa using this
theorem dg_ok2 {c : UInt8} (h : dg c = true) : okC c = true ∧ sgn c = false := by
  have hv := dg_val h
  refine ⟨by unfold okC; rw [h]; simp, ?_⟩
  unfold sgn
  simp
  omega
theorem nth_valid {a b : Str} {n j : Nat} (ha : validC a = true) (hb : validC b = true) (hn : rangeN a b = n) (hj : j < n) : validC (nthS a j) = true := by
  unfold rangeN at hn
  split at hn
  · rename_i hr
    obtain ⟨h1, h2, h3, h4⟩ := hr
    have hbl := validC_len hb
    have hsp := pre_split a
    have hne := wr_ne (numL a + j) (lastS a).length
    have hdg := wr_dgs (numL a + j) (lastS a).length
    have hlen : (nthS a j).length ≤ 16 := by
      rw [← h4, List.length_append, wr_len] at hbl
      unfold nthS
      rw [List.length_append, wr_len]
      have := dec_mono2 (numL b) (numL a + j) (by omega)
      omega
    have hall : (nthS a j).all okC = true := by
      rw [List.all_eq_true]
      intro c hc
      unfold nthS at hc
      rcases List.mem_append.1 hc with hc | hc
      · have hca : c ∈ a := by rw [← hsp]; exact List.mem_append_left _ hc
        cases a with
        | nil => cases hca
        | cons x r =>
          unfold validC at ha
          simp only [Bool.and_eq_true] at ha
          exact List.all_eq_true.1 ha.2 c hca
      · exact (dg_ok2 (hdg c hc)).1
    cases hp : preS a with
    | nil =>
      have e : nthS a j = wrS (numL a + j) (lastS a).length := by unfold nthS; rw [hp]; rfl
      rw [e] at hlen hall ⊢
      cases hw : wrS (numL a + j) (lastS a).length with
      | nil => exact absurd hw hne
      | cons c r =>
        rw [hw] at hlen hall hdg
        have hs := (dg_ok2 (hdg c (by simp))).2
        unfold validC
        simp only [hs, hall, Bool.not_false, Bool.and_true, decide_eq_true_eq]
        exact hlen
    | cons c r =>
      have e : nthS a j = c :: (r ++ wrS (numL a + j) (lastS a).length) := by unfold nthS; rw [hp]; rfl
      have hac : a = c :: (r ++ lastS a) := by
        conv => lhs; rw [← hsp]
        rw [hp]
        rfl
      have hs : sgn c = false := by
        rw [hac] at ha
        unfold validC at ha
        simp only [Bool.and_eq_true, Bool.not_eq_true'] at ha
        exact ha.1.2
      rw [e] at hlen hall ⊢
      unfold validC
      simp only [hs, hall, Bool.not_false, Bool.and_true, decide_eq_true_eq]
      exact hlen
  · omega
end Go.Proofs.YteckefolakjafaaGreatDoor.S3

