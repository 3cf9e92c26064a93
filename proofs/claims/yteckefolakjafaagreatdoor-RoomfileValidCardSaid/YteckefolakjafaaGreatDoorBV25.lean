/-
  The rooms that are known, by their codes: add of rooms. Conditions: the map is one of the call's own, with the codes l; the room's code fits into memory.
  The first error of rooms: isFrame and Valid of roomfile. Conditions: the rooms lie in memory.
  Records, problems in memory. No program beyond the types' facts.
  Whether two lists of strings are equal: the reference's SameStrings. Conditions: both lie in memory.
-/
import Derived.Test.YteckefolakjafaaGreatDoorBV15
import Derived.Test.YteckefolakjafaaGreatDoorBV24
import Derived.Maps.OwnSet
import Derived.Maps.Range
import Derived.WalkKit
set_option linter.unusedVariables false
namespace Go.Proofs.YteckefolakjafaaGreatDoor
open Go Go.Proofs Go.RowKit Go.Lib
open Go.Maps (Keyed string_keyed)
open Go.WideMaps (keyOf_string_mk)

/-- How a room reads in the map of known ones: all that matters is that it is one. -/
def aggR : Value → Option (DataW Unit × List MemPlace)
  | .agg ⟨[.string _, .string _, .int .i64 _, .slice _ _ _, .slice _ _ _]⟩ => some (.agg [], [])
  | _ => none
theorem aggR_mk (a b : ByteArray) (s : Int) (A1 A2 : Option Addr) (n1 c1 n2 c2 : Nat) : aggR (.agg #[.string a, .string b, .int .i64 s, .slice A1 n1 c1, .slice A2 n2 c2]) = some (.agg [], []) := rfl
theorem aggR_inv {v : Value} {z : DataW Unit × List MemPlace} (h : aggR v = some z) : ∃ (a b : ByteArray) (s : Int) (A1 A2 : Option Addr) (n1 c1 n2 c2 : Nat), v = .agg #[.string a, .string b, .int .i64 s, .slice A1 n1 c1, .slice A2 n2 c2] := by
  unfold aggR at h
  split at h
  · exact ⟨_, _, _, _, _, _, _, _, _, rfl⟩
  · cases h
def litS (s : Str) : Lit := .string s
def setR (l : List Str) : DataW Unit := Maps.setOf (.agg []) (l.map litS)
theorem keyLit (s : Str) : WideAt.IsKeyLit (litS s) := by unfold litS; constructor
theorem sameKey_litS (a b : Str) : (litS a).sameKey (litS b) = decide (a = b) := by
  by_cases h : a = b
  · subst h
    rw [WideAt.sameKey_self (keyLit a), decide_eq_true rfl]
  · rw [Maps.sameKey_ne (fun e => h (by unfold litS at e; injection e)), decide_eq_false h]
theorem has_setR (l : List Str) (c : Str) : Maps.has (setR l) (litS c) = decide (c ∈ l) := by
  unfold setR
  rw [Maps.has_setOf _ _ _ (fun x hx => by obtain ⟨s, _, rfl⟩ := List.mem_map.1 hx; exact keyLit s)]
  rw [Bool.eq_iff_iff, List.any_eq_true, decide_eq_true_eq]
  constructor
  · rintro ⟨x, hx, hk⟩
    obtain ⟨s, hs, rfl⟩ := List.mem_map.1 hx
    rw [sameKey_litS, decide_eq_true_eq] at hk
    subst hk
    exact hs
  · intro h
    exact ⟨litS c, List.mem_map.2 ⟨c, h, rfl⟩, by rw [sameKey_litS, decide_eq_true rfl]⟩
theorem setR_snoc (l : List Str) (c : Str) : setR (l ++ [c]) = (setR l).put (litS c) (.agg []) := by
  unfold setR
  rw [List.map_append, List.map_singleton, Maps.setOf_snoc]
/-- Block B is the map of the rooms with the codes l. -/
structure KSet (w : World) (B : Nat) (l : List Str) : Prop where
  own : w.ownsMap Tryz.prog 9 aggR B l.length (setR l)
  sz : Maps.size (setR l) = l.length
theorem KSet.made (w : World) : KSet (w.alloc (.map #[] 0)) w.heap.size [] := ⟨World.ownsMap_made _ _ _ _, rfl⟩
theorem KSet.kept {w w' : World} {B : Nat} {l : List Str} {row : Option Nat} (h : KSet w B l) (hg : w.grownBy w' row) (hne : some B ≠ row) : KSet w' B l := ⟨h.own.kept hg hne, h.sz⟩
theorem below_grown {B : Nat} {w w' : World} (h : Below B w w') (hB : w.heap.size ≤ B) : w.grownBy w' none := ⟨h.os, h.tape, h.output, h.size, fun k hk _ => h.block k (Nat.lt_of_lt_of_le hk hB)⟩
theorem KSet.below {w w' : World} {B : Nat} {l : List Str} (h : KSet w B l) (hb : Below w.heap.size w w') : KSet w' B l := h.kept (below_grown hb (Nat.le_refl _)) (by simp)
theorem KSet.lt {w : World} {B : Nat} {l : List Str} (h : KSet w B l) : B < w.heap.size := h.own.lt
theorem law9 : Keyed Tryz.prog 9 := string_keyed Tryz.underlying9
theorem zeroRoom (w : World) : (zeroValue 46).run Tryz.prog w = .ok (.agg #[.string ⟨#[]⟩, .string ⟨#[]⟩, .int .i64 0, .slice none 0 0, .slice none 0 0]) w := by kernel_rfl
theorem wpList_lookup_room {P : Program} (w : World) {ops : Array Oper} {rest : List Oper} {o : Oper} {a : Act} {Q : Exit → Act → World → Prop} (hg : o.guard = none) (m x : Operand) (t : TypeId) (hop : o.op = Op.lookup t m x true)
    (k e : TypeId) (K : Keyed P k) (ht : P.underlying t = some (.map k e)) {z : Value} (hz : (zeroValue e).run P w = .ok z w) (hzd : aggR z = some (.agg [], [])) (b n : Nat) (D : DataW Unit)
    (hm : a.eval m = .map (some b)) (hown : w.ownsMap P k aggR b n D) (key : Value) (kl : Lit) (hx : a.eval x = key) (hkey : keyOf P k key = some kl)
    (hK : ∀ (x y : ByteArray) (s : Int) (A1 A2 : Option Addr) (n1 c1 n2 c2 : Nat), wpList P ops Q rest (a.put o.dst (.tuple #[.agg #[.string x, .string y, .int .i64 s, .slice A1 n1 c1, .slice A2 n2 c2], .bool (Maps.has D kl)])) w) :
    wpList P ops Q (o :: rest) a w :=
  wpList_lookup_own_ok w hg m x t hop k e K ht aggR hz (.agg []) [] hzd b n D hm hown key kl hx hkey (fun v ps hv => by
    obtain ⟨x, y, s, A1, A2, n1, c1, n2, c2, rfl⟩ := aggR_inv hv
    exact hK x y s A1 A2 n1 c1 n2 c2)
def addM (l : List Str) (c : Str) : List Str × Int := if c ∈ l then (l, 11) else if l.length = 16 then (l, 2) else (l ++ [c], 0)
/-- What add leaves behind. -/
def AddOut (l : List Str) (c : Str) (B : Nat) (w : World) (e : Ending) (w' : World) : Prop := e = .returned (.int .i64 (addM l c).2) ∧ KSet w' B (addM l c).1 ∧ w.grownBy w' (some B)
theorem grown_none {w w' : World} {B : Nat} (h : w.grownBy w' none) : w.grownBy w' (some B) := ⟨h.os, h.tape, h.output, h.size, fun k hk _ => h.block k hk (by simp)⟩

set_option maxHeartbeats 4000000 in
set_option maxRecDepth 100000 in
theorem add_any (B : Nat) (l : List Str) (c : ByteArray) (bd : ByteArray) (st : Int) (A1 : Option Addr) (n1 c1 : Nat) (A2 : Option Addr) (n2 c2 : Nat) (hl : l.length ≤ 16) (hc : c.size ≤ maxLen) (w : World) (h : KSet w B l) :
    Calls Tryz.prog 23 #[.map (some B), .agg #[.string c, .string bd, .int .i64 st, .slice A1 n1 c1, .slice A2 n2 c2]] w (AddOut l (lst c) B w) := by
  unfold AddOut addM
  have hkey : keyOf Tryz.prog 9 (.string c) = some (litS (lst c)) := keyOf_string_mk Tryz.underlying9 hc
  have hhas := has_setR l (lst c)
  have hBl := h.lt
  have h1 := h.below ((Below.refl _ w).alloc (Nat.le_refl _) (.cells #[.string c, .string bd, .int .i64 st, .slice A1 n1 c1, .slice A2 n2 c2] 46))
  have hg0 : w.grownBy (w.alloc (.cells #[.string c, .string bd, .int .i64 st, .slice A1 n1 c1, .slice A2 n2 c2] 46)) none := World.grownBy_alloc w _ none
  have hB1 := Box5.new w (.string c) (.string bd) (.int .i64 st) (.slice A1 n1 c1) (.slice A2 n2 c2)
  have hs1 : (w.alloc (.cells #[.string c, .string bd, .int .i64 st, .slice A1 n1 c1, .slice A2 n2 c2] 46)).heap.size = w.heap.size + 1 := by simp
  have H1 := hid h1
  have HB1 := hid hB1
  have HG0 := hid hg0
  have HS1 := hid hs1
  have HKEY := hid hkey
  clear h1 hB1 hg0 hs1 hkey h
  by_cases hm : lst c ∈ l
  · rw [if_pos hm]
    rw [decide_eq_true hm] at hhas
    have HHAS := hid hhas
    clear hhas
    go_enter Tryz.func23, Tryz.ntmps23
    go_wp2_with (first
      | (at_lookup; refine wpList_lookup_room _ rfl _ _ 58 rfl 9 46 law9 Tryz.underlying58 (zeroRoom _) (aggR_mk _ _ _ _ _ _ _ _ _) B l.length (setR l) rfl H1.out.own _ _ rfl HKEY.out ?_; intro u0 u1 u2 u3 u4 u5 u6 u7 u8; rw [HHAS.out])
      | go_in)
    go_ret
    refine ⟨rfl, H1.out.below ((Below.refl _ _).alloc (Nat.le_refl _) _), ?_⟩
    exact grown_none (HG0.out.andThen (World.grownBy_alloc _ _ none) (by simp))
  · rw [if_neg hm]
    rw [decide_eq_false hm] at hhas
    have HHAS := hid hhas
    have hsz := H1.out.sz
    by_cases h16 : l.length = 16
    · rw [if_pos h16]
      rw [h16] at hsz
      have HSZ := hid hsz
      clear hhas hsz
      go_enter Tryz.func23, Tryz.ntmps23
      go_wp2_with (first
        | (at_lookup; refine wpList_lookup_room _ rfl _ _ 58 rfl 9 46 law9 Tryz.underlying58 (zeroRoom _) (aggR_mk _ _ _ _ _ _ _ _ _) B l.length (setR l) rfl H1.out.own _ _ rfl HKEY.out ?_; intro u0 u1 u2 u3 u4 u5 u6 u7 u8; rw [HHAS.out])
        | (at_len; refine wpList_len_own _ rfl _ 58 rfl 9 46 Tryz.underlying58 aggR B l.length (setR l) rfl (H1.out.own.alloc _) ?_; rw [HSZ.out])
        | go_in)
      go_ret
      refine ⟨rfl, H1.out.below ((Below.refl _ _).alloc (Nat.le_refl _) _), ?_⟩
      exact grown_none (HG0.out.andThen (World.grownBy_alloc _ _ none) (by simp))
    · rw [if_neg h16]
      have HSZ := hid hsz
      have h16z : ((l.length : Nat) : Int) ≠ 16 := by omega
      have h16b : (((l.length : Nat) : Int) == 16) = false := by simpa using h16z
      clear hhas hsz
      go_enter Tryz.func23, Tryz.ntmps23
      go_wp2_with (first
        | (at_lookup; refine wpList_lookup_room _ rfl _ _ 58 rfl 9 46 law9 Tryz.underlying58 (zeroRoom _) (aggR_mk _ _ _ _ _ _ _ _ _) B l.length (setR l) rfl H1.out.own _ _ rfl HKEY.out ?_; intro u0 u1 u2 u3 u4 u5 u6 u7 u8; rw [HHAS.out])
        | (at_len; refine wpList_len_own _ rfl _ 58 rfl 9 46 Tryz.underlying58 aggR B l.length (setR l) rfl (H1.out.own.alloc _) ?_; rw [HSZ.out])
        | (at_mapUpdate; refine wpList_mapUpdate_own _ rfl _ _ _ 58 rfl 9 46 law9 Tryz.underlying58 aggR B l.length (setR l) rfl (H1.out.own.alloc _) (by unfold maxLen; omega) _ _ _ rfl rfl HKEY.out _ [] (aggR_mk _ _ _ _ _ _ _ _ _) ?_; intro w1 hown1 hgrow1)
        | go_in)
      go_ret
      refine ⟨rfl, ⟨?_, ?_⟩, ?_⟩
      · rw [setR_snoc, List.length_append, List.length_singleton]
        exact hown1
      · rw [setR_snoc, Maps.size_put (H1.out.own.tidy law9), HHAS.out, HSZ.out, List.length_append, List.length_singleton]
        rfl
      · exact (grown_none (HG0.out.andThen (World.grownBy_alloc _ _ none) (by simp))).andThen hgrow1 (fun j hj => .inr hj)
end Go.Proofs.YteckefolakjafaaGreatDoor

set_option linter.unusedVariables false
namespace Go.Proofs.YteckefolakjafaaGreatDoor
open Go Go.Proofs Go.RowKit Go.Lib

set_option maxHeartbeats 4000000 in
set_option maxRecDepth 100000 in
theorem rframe_any (d s b m n : Int) (w : World) : Calls Tryz.prog 21 #[.agg #[.int .i64 d, .int .i64 s, .int .i64 b, .int .i64 m], .int .i64 n] w (Says (.bool (frameB d s b m n)) w) := by
  have cV := fun w => gvalid_any d s b m w
  unfold Says at cV ⊢
  have hF : frameB d s b m n = (gridB d s b m && decide (1 ≤ n) && decide (n ≤ 20)) := by
    unfold frameB
    rw [Bool.eq_iff_iff]
    simp
    constructor
    · rintro ⟨h1, h2, h3⟩; exact ⟨⟨h1, h2⟩, h3⟩
    · rintro ⟨⟨h1, h2⟩, h3⟩; exact ⟨h1, h2, h3⟩
  rw [hF]
  have hk := K1.first w d s b m 24
  have HK := hid hk
  clear hk hF
  cases hg : gridB d s b m with
  | false =>
    rw [hg, if_neg (by simp)] at cV
    clear hg
    go_enter Tryz.func21, Tryz.ntmps21
    go_wp2_with fail
    refine (cV _).mono ?_
    rintro e w1 ⟨rfl, hb⟩
    have hk := HK.out.next hb
    clear hb HK
    go_wp2
    go_ret
    exact ⟨rfl, hk.b⟩
  | true =>
    rw [hg, if_pos rfl] at cV
    clear hg
    by_cases h1 : 1 ≤ n
    · have h1d : decide (1 ≤ n) = true := decide_eq_true h1
      by_cases h2 : n ≤ 20
      · have h2d : decide (n ≤ 20) = true := decide_eq_true h2
        rw [h1d, h2d]
        go_enter Tryz.func21, Tryz.ntmps21
        go_wp2_with fail
        refine (cV _).mono ?_
        rintro e w1 ⟨rfl, hb⟩
        have hk := HK.out.next hb
        clear hb HK
        go_wp2
        go_ret
        exact ⟨rfl, hk.b⟩
      · have h2d : decide (n ≤ 20) = false := decide_eq_false h2
        rw [h1d, h2d]
        go_enter Tryz.func21, Tryz.ntmps21
        go_wp2_with fail
        refine (cV _).mono ?_
        rintro e w1 ⟨rfl, hb⟩
        have hk := HK.out.next hb
        clear hb HK
        go_wp2
        go_ret
        exact ⟨rfl, hk.b⟩
    · have h1d : decide (1 ≤ n) = false := decide_eq_false h1
      rw [h1d]
      go_enter Tryz.func21, Tryz.ntmps21
      go_wp2_with fail
      refine (cV _).mono ?_
      rintro e w1 ⟨rfl, hb⟩
      have hk := HK.out.next hb
      clear hb HK
      go_wp2
      go_ret
      exact ⟨by simp, hk.b⟩

theorem validC_len {s : Str} (h : S3.validC s = true) : s.length ≤ 16 := by
  unfold S3.validC at h
  cases s with
  | nil => simp
  | cons a r => simp at h; simp; omega
theorem roomM_code {d s b m n : Int} {r : RoomD} (h : roomM d s b m n r = 0) : r.1.length ≤ 16 := by
  refine validC_len ?_
  cases hv : S3.validC r.1 with
  | true => rfl
  | false =>
    unfold roomM at h
    rw [if_pos (.inl hv)] at h
    simp at h

set_option maxHeartbeats 16000000 in
set_option maxRecDepth 100000 in
theorem rvalid7_any (d s b m n : Int) (A : Option Addr) (l : List RoomD) (c : Nat) (w : World) (h : RoomsIn w (fun k => k < w.heap.size) A l) :
    Calls Tryz.prog 8 #[.slice A l.length c, .agg #[.int .i64 d, .int .i64 s, .int .i64 b, .int .i64 m], .int .i64 n] w (Says (.int .i64 (validR d s b m n l)) w) := by
  have cF := fun w => rframe_any d s b m n w
  have hmm := @run_makeMap Tryz.prog
  unfold Says at cF ⊢
  obtain ⟨R, hR⟩ : ∃ R, validR d s b m n l = R := ⟨_, rfl⟩
  rw [hR]
  unfold validR at hR
  have hk := K1.first w d s b m 24
  have HK := hid hk
  have HH := hid h
  clear hk h
  cases hf : frameB d s b m n with
  | false =>
    rw [hf] at cF hR
    rw [if_pos rfl] at hR
    subst hR
    clear hf
    go_enter Tryz.func8, Tryz.ntmps8
    go_wp2_with fail
    refine (cF _).mono ?_
    rintro e w1 ⟨rfl, hb⟩
    have hk := HK.out.next hb
    clear hb HK
    go_wp2
    go_ret
    exact ⟨rfl, hk.b⟩
  | true =>
    rw [hf] at cF hR
    rw [if_neg (by simp)] at hR
    by_cases h16 : 16 < l.length
    · rw [if_pos h16] at hR
      subst hR
      have hz : (16 : Int) < (l.length : Int) := by omega
      clear hf
      go_enter Tryz.func8, Tryz.ntmps8
      go_wp2_with fail
      refine (cF _).mono ?_
      rintro e w1 ⟨rfl, hb⟩
      have hk := HK.out.next hb
      clear hb HK
      go_wp2
      go_ret
      exact ⟨rfl, hk.b⟩
    · rw [if_neg h16] at hR
      have hz : ¬ (16 : Int) < (l.length : Int) := by omega
      have HR : Hid (goV d s b m n (codesR (l.take 0)) (l.drop 0) = R) := hid hR
      clear hf hR
      go_enter Tryz.func8, Tryz.ntmps8
      go_wp2_with fail
      refine (cF _).mono ?_
      rintro e w1 ⟨rfl, hb⟩
      have hk := HK.out.next hb
      have hM : KSet (w1.alloc (.map #[] 0)) w1.heap.size [] := KSet.made w1
      have hk2 := hk.next ((Below.refl _ w1).alloc (Nat.le_refl _) (.map #[] 0))
      have hMl : w.heap.size ≤ w1.heap.size := hk.b.size
      have HM := hid hM
      have HK2 := hid hk2
      have hGM : w.heap.size < w1.heap.size := hk.x.lt
      clear hb HK hM hk2 hk
      go_wp2
      generalize w1.heap.size = M at HM hMl hGM ⊢
      generalize World.alloc _ _ = wz at HM HK2 ⊢
      go_loopw [9, 10, 11, 24] (fun _ _ _ iv wr => ∃ i : Nat, iv = .int .i64 (i : Int) ∧ i ≤ l.length ∧ Hid (goV d s b m n (codesR (l.take i)) (l.drop i) = R) ∧ Hid (KSet wr M (codesR (l.take i))) ∧ Hid (K1 w d s b m wr)) (fun _ _ _ iv _ => l.length - (RowKit.intOf iv).toNat)
      case atStart => exact ⟨0, rfl, Nat.zero_le _, HR, hid HM.out, hid HK2.out⟩
      case round =>
        obtain ⟨i, rfl, hi, hE, hS, hK⟩ := hrel
        by_cases hlt : i < l.length
        · have hltz : (i : Int) < (l.length : Int) := by omega
          have hst := goV_step d s b m n l i hlt
          rw [hE.out] at hst
          have hcl : (codesR (l.take i)).length = i := by simp [codesR]; omega
          obtain ⟨fb, fo, q, rfl, hfb, hri, ⟨y0, y1, y2, y3, y4⟩⟩ := (HH.out.below hK.out.b).at_ hlt
          have hadd : codesR (l.take (i + 1)) = codesR (l.take i) ++ [l[i].1] := by rw [List.take_succ_eq_append_getElem hlt]; unfold codesR; rw [List.map_append]; rfl
          have cC : ∀ W, Below wr.heap.size wr W → Calls Tryz.prog 22 #[roomV l[i] q, .agg #[.int .i64 d, .int .i64 s, .int .i64 b, .int .i64 m], .int .i64 n] W (Says (.int .i64 (roomM d s b m n l[i])) W) :=
            fun W hb => rcheck_any d s b m n l[i] q W ((hri.below (hb.mono hK.out.b.size)).mono (fun k hk => Nat.lt_of_lt_of_le hk (Nat.le_trans hK.out.b.size hb.size)))
          have hcode : roomM d s b m n l[i] = 0 → l[i].1.length ≤ 16 := roomM_code
          obtain ⟨⟨code, bld, seats, fs, ts⟩, hr⟩ : ∃ r, l[i] = r := ⟨_, rfl⟩
          rw [hr] at hst y0 y1 y2 y3 y4 cC hadd hcode
          dsimp only at hst y0 y1 y2 y3 y4 hadd hcode
          unfold roomV Says at cC
          dsimp only at cC
          obtain ⟨E, hE2⟩ : ∃ E, roomM d s b m n (code, bld, seats, fs, ts) = E := ⟨_, rfl⟩
          rw [hE2] at cC hst hcode
          obtain ⟨X1, hX1⟩ : ∃ X, ba code = X := ⟨_, rfl⟩
          obtain ⟨X2, hX2⟩ : ∃ X, ba bld = X := ⟨_, rfl⟩
          obtain ⟨F1, hF1⟩ : ∃ F, fs.length = F := ⟨_, rfl⟩
          obtain ⟨T1, hT1⟩ : ∃ F, ts.length = F := ⟨_, rfl⟩
          rw [hX1] at y0 cC
          rw [hX2] at y1 cC
          rw [hF1] at y3 cC
          rw [hT1] at y4 cC
          have hX1l : lst X1 = code := by rw [← hX1]; rfl
          have HXL := hid hX1l
          have HST := hid hst
          have HADD := hid hadd
          have HCODE := hid hcode
          have HCL := hid hcl
          have hb1 := (Below.refl wr.heap.size wr).alloc (Nat.le_refl _) (.cells #[.string X1, .string X2, .int .i64 seats, .slice q.a1 F1 q.c1, .slice q.a2 T1 q.c2] 46)
          have HN1 := hid (Box5.new wr (.string X1) (.string X2) (.int .i64 seats) (.slice q.a1 F1 q.c1) (.slice q.a2 T1 q.c2))
          have hK1 := hK.out.next hb1
          have hS1 := hS.out.below hb1
          have hs1 : (wr.alloc (.cells #[.string X1, .string X2, .int .i64 seats, .slice q.a1 F1 q.c1, .slice q.a2 T1 q.c2] 46)).heap.size = wr.heap.size + 1 := by simp
          obtain ⟨⟨g0, g1, g2, g3, _⟩, _⟩ := id hK1
          have CC := hid (cC _ hb1)
          have HK1 := hid hK1
          have HS1 := hid hS1
          have HB1 := hid hb1
          have HZ1 := hid hs1
          clear hr hE2 hX1 hX2 hF1 hT1 hX1l hst hadd hcode hcl hb1 hK1 hS1 hs1 cC hri hfb hE hK hS
          by_cases hE0 : E = 0
          · subst hE0
            have hst := HST.out
            rw [if_neg (by simp)] at hst
            have hcl16 := HCODE.out rfl
            by_cases hm : code ∈ codesR (l.take i)
            · rw [if_pos hm] at hst
              have HRR := hid hst
              clear hst
              go_wp2_with fail
              refine CC.out.mono ?_
              rintro e w2 ⟨rfl, hb2⟩
              generalize wr.alloc (.cells #[.string X1, .string X2, .int .i64 seats, .slice q.a1 F1 q.c1, .slice q.a2 T1 q.c2] 46) = w1 at HN1 HK1 HS1 HB1 HZ1 hb2 ⊢
              have hN2 := HN1.out.below hb2 (by rw [HZ1.out]; omega)
              have hS2 := HS1.out.below hb2
              have hK2 := HK1.out.next hb2
              obtain ⟨z0, z1, z2, z3, z4⟩ := hN2.cells
              have cA := add_any M (codesR (l.take i)) X1 X2 seats q.a1 F1 q.c1 q.a2 T1 q.c2 (by rw [HCL.out]; omega) (by rw [Lib.size_eq]; show (lst X1).length ≤ maxLen; rw [HXL.out]; unfold maxLen; omega) w2 hS2
              unfold AddOut at cA
              rw [HXL.out, show addM (codesR (l.take i)) code = (codesR (l.take i), 11) from if_pos hm] at cA
              dsimp only at cA
              have CA := hid cA
              have HK2 := hid hK2
              clear cA hK2 hS2 hN2 hb2 g0 g1 g2 g3 hm
              go_wp2_with fail
              refine CA.out.mono ?_
              rintro e w3 ⟨rfl, hS3, hg3⟩
              have HB3 := hid (HK2.out.b.grown hg3 HK2.out.b.size (fun k e => by injection e; omega))
              clear hg3
              go_wp2
              go_ret
              rw [HRR.out]
              exact ⟨rfl, HB3.out⟩
            · rw [if_neg hm] at hst
              have HRR := hid hst
              clear hst
              go_wp2_with fail
              refine CC.out.mono ?_
              rintro e w2 ⟨rfl, hb2⟩
              generalize wr.alloc (.cells #[.string X1, .string X2, .int .i64 seats, .slice q.a1 F1 q.c1, .slice q.a2 T1 q.c2] 46) = w1 at HN1 HK1 HS1 HB1 HZ1 hb2 ⊢
              have hN2 := HN1.out.below hb2 (by rw [HZ1.out]; omega)
              have hS2 := HS1.out.below hb2
              have hK2 := HK1.out.next hb2
              obtain ⟨z0, z1, z2, z3, z4⟩ := hN2.cells
              have cA := add_any M (codesR (l.take i)) X1 X2 seats q.a1 F1 q.c1 q.a2 T1 q.c2 (by rw [HCL.out]; omega) (by rw [Lib.size_eq]; show (lst X1).length ≤ maxLen; rw [HXL.out]; unfold maxLen; omega) w2 hS2
              unfold AddOut at cA
              rw [HXL.out, show addM (codesR (l.take i)) code = (codesR (l.take i) ++ [code], 0) from by unfold addM; rw [if_neg hm, if_neg (by rw [HCL.out]; omega)]] at cA
              dsimp only at cA
              rw [← HADD.out] at cA
              have CA := hid cA
              have HK2 := hid hK2
              clear cA hK2 hS2 hN2 hb2 g0 g1 g2 g3 hm
              go_wp2_with fail
              refine CA.out.mono ?_
              rintro e w3 ⟨rfl, hS3, hg3⟩
              have HB3 := hid (HK2.out.b.grown hg3 HK2.out.b.size (fun k e => by injection e; omega))
              have hx3 : Box4 w3 w.heap.size d s b m := by
                have kc : ∀ o : Nat, w3.cell? ⟨w.heap.size, o, none⟩ = w2.cell? ⟨w.heap.size, o, none⟩ := fun o => World.cell?_of_block (w := w2) (hg3.block _ HK2.out.x.lt (fun e => by injection e with e; have e2 : w.heap.size = M := e; omega))
                have hx := HK2.out.x
                exact ⟨(kc 0).trans hx.c0, (kc 1).trans hx.c1, (kc 2).trans hx.c2, (kc 3).trans hx.c3, Nat.lt_of_lt_of_le hx.lt hg3.size⟩
              have HK3 : Hid (K1 w d s b m w3) := hid ⟨hx3, HB3.out⟩
              have HS3 := hid hS3
              clear hg3 hx3 hS3
              go_wp2
              go_roundw
              case rel => exact ⟨i + 1, by go_num, by omega, hid HRR.out.symm, hid HS3.out, hid HK3.out⟩
              case measure => simp [RowKit.intOf]; omega
          · have hst := HST.out
            rw [if_pos hE0] at hst
            have HRR := hid hst
            have hE0' : (E != 0) = true := by simpa using hE0
            have hE0'' : (E == 0) = false := by simpa using hE0
            clear hst
            go_wp2_with fail
            refine CC.out.mono ?_
            rintro e w2 ⟨rfl, hb2⟩
            have HB2 := hid (HK1.out.next hb2).b
            clear hb2
            go_wp2
            go_ret
            rw [HRR.out]
            exact ⟨rfl, HB2.out⟩
        · have hltz : ¬ (i : Int) < (l.length : Int) := by omega
          have hn : Hid (R = 0) := hid (by rw [← hE.out, List.drop_of_length_le (by omega)]; rfl)
          go_wp2
          go_ret
          rw [hn.out]
          exact ⟨rfl, hK.out.b⟩
end Go.Proofs.YteckefolakjafaaGreatDoor

set_option linter.unusedVariables false
namespace Go.Proofs.YteckefolakjafaaGreatDoor
open Go Go.Proofs Go.RowKit Go.Lib

abbrev FieldD := Str × Int × Bool
abbrev RecD := Int × List FieldD
abbrev ProbD := Int × Int × Int
def fieldVs (f : FieldD) : List Value := [.string (ba f.1), .int .i64 f.2.1, .bool f.2.2]
/-- The slice at A holds the fields l, in a block with P. -/
def FieldsIn (w : World) (P : Nat → Prop) (A : Option Addr) (l : List FieldD) : Prop :=
  l = [] ∨ ∃ b off, A = some ⟨b, off, none⟩ ∧ P b ∧ ∀ (j : Nat) (t : FieldD), l[j]? = some t → ∀ (i : Nat) (v : Value), (fieldVs t)[i]? = some v → w.cell? ⟨b, off + j * 3 + i, none⟩ = some v
theorem FieldsIn.kept {w w' : World} {P : Nat → Prop} {A : Option Addr} {l : List FieldD} (h : FieldsIn w P A l) (hk : ∀ b, P b → w'.heap[b]? = w.heap[b]?) : FieldsIn w' P A l := by
  rcases h with h | ⟨b, off, hA, hP, hc⟩
  · exact .inl h
  · exact .inr ⟨b, off, hA, hP, fun j t hj i v hv => (World.cell?_of_block (w := w) (hk b hP)).trans (hc j t hj i v hv)⟩
theorem FieldsIn.mono {w : World} {P P' : Nat → Prop} {A : Option Addr} {l : List FieldD} (h : FieldsIn w P A l) (hP : ∀ b, P b → P' b) : FieldsIn w P' A l := by
  rcases h with h | ⟨b, off, hA, hb, hc⟩
  · exact .inl h
  · exact .inr ⟨b, off, hA, hP b hb, hc⟩
theorem FieldsIn.below {w w' : World} {B : Nat} {A : Option Addr} {l : List FieldD} (h : FieldsIn w (fun b => b < B) A l) (hb : Below B w w') : FieldsIn w' (fun b => b < B) A l := h.kept fun b hB => hb.block b hB
theorem FieldsIn.at_ {w : World} {P : Nat → Prop} {A : Option Addr} {l : List FieldD} (h : FieldsIn w P A l) {k : Nat} (hk : k < l.length) :
    ∃ b off, A = some ⟨b, off, none⟩ ∧ P b ∧ w.cell? ⟨b, off + k * 3, none⟩ = some (.string (ba l[k].1)) ∧ w.cell? ⟨b, off + k * 3 + 1, none⟩ = some (.int .i64 l[k].2.1) ∧ w.cell? ⟨b, off + k * 3 + 2, none⟩ = some (.bool l[k].2.2) := by
  rcases h with h | ⟨b, off, hA, hP, hc⟩
  · subst h; simp at hk
  · have hg := List.getElem?_eq_getElem hk
    exact ⟨b, off, hA, hP, hc k _ hg 0 _ rfl, hc k _ hg 1 _ rfl, hc k _ hg 2 _ rfl⟩
/-- The slice at A holds the records l, in blocks with P. -/
def RecsIn (w : World) (P : Nat → Prop) (A : Option Addr) (l : List RecD) : Prop :=
  l = [] ∨ ∃ b off, A = some ⟨b, off, none⟩ ∧ P b ∧ ∀ (j : Nat) (r : RecD), l[j]? = some r → ∃ A' c', FieldsIn w P A' r.2 ∧ r.2.length ≤ c' ∧ c' ≤ 9223372036854775807 ∧ w.cell? ⟨b, off + j * 2, none⟩ = some (.int .i64 r.1) ∧ w.cell? ⟨b, off + j * 2 + 1, none⟩ = some (.slice A' r.2.length c')
theorem RecsIn.kept {w w' : World} {P : Nat → Prop} {A : Option Addr} {l : List RecD} (h : RecsIn w P A l) (hk : ∀ b, P b → w'.heap[b]? = w.heap[b]?) : RecsIn w' P A l := by
  rcases h with h | ⟨b, off, hA, hP, hc⟩
  · exact .inl h
  · refine .inr ⟨b, off, hA, hP, fun j r hj => ?_⟩
    obtain ⟨A', c', h1, h2, h3, h4, h5⟩ := hc j r hj
    exact ⟨A', c', h1.kept hk, h2, h3, (World.cell?_of_block (w := w) (hk b hP)).trans h4, (World.cell?_of_block (w := w) (hk b hP)).trans h5⟩
theorem RecsIn.mono {w : World} {P P' : Nat → Prop} {A : Option Addr} {l : List RecD} (h : RecsIn w P A l) (hP : ∀ b, P b → P' b) : RecsIn w P' A l := by
  rcases h with h | ⟨b, off, hA, hb, hc⟩
  · exact .inl h
  · refine .inr ⟨b, off, hA, hP b hb, fun j r hj => ?_⟩
    obtain ⟨A', c', h1, h2, h3, h4, h5⟩ := hc j r hj
    exact ⟨A', c', h1.mono hP, h2, h3, h4, h5⟩
theorem RecsIn.below {w w' : World} {B : Nat} {A : Option Addr} {l : List RecD} (h : RecsIn w (fun b => b < B) A l) (hb : Below B w w') : RecsIn w' (fun b => b < B) A l := h.kept fun b hB => hb.block b hB
theorem RecsIn.at_ {w : World} {P : Nat → Prop} {A : Option Addr} {l : List RecD} (h : RecsIn w P A l) {k : Nat} (hk : k < l.length) :
    ∃ b off A' c', A = some ⟨b, off, none⟩ ∧ P b ∧ FieldsIn w P A' l[k].2 ∧ l[k].2.length ≤ c' ∧ c' ≤ 9223372036854775807 ∧ w.cell? ⟨b, off + k * 2, none⟩ = some (.int .i64 l[k].1) ∧ w.cell? ⟨b, off + k * 2 + 1, none⟩ = some (.slice A' l[k].2.length c') := by
  rcases h with h | ⟨b, off, hA, hP, hc⟩
  · subst h; simp at hk
  · obtain ⟨A', c', h1, h2, h3, h4, h5⟩ := hc k _ (List.getElem?_eq_getElem hk)
    exact ⟨b, off, A', c', hA, hP, h1, h2, h3, h4, h5⟩

/-! ### rows that the call owns: times, rooms, problems -/
theorem infoTime : (Tryz.prog.info? 55).map (fun i => (i.zero, i.size, i.bytes)) = some (some (.agg #[.int .i64 0, .int .i64 0, .int .i64 0, .int .i64 0]), 4, 32) := by kernel_rfl
theorem infoRoom : (Tryz.prog.info? 46).map (fun i => (i.zero, i.size, i.bytes)) = some (some (.agg #[.string ⟨#[]⟩, .string ⟨#[]⟩, .int .i64 0, .slice none 0 0, .slice none 0 0]), 5, 88) := by kernel_rfl
theorem infoProb : (Tryz.prog.info? 66).map (fun i => (i.zero, i.size, i.bytes)) = some (some (.agg #[.int .i64 0, .int .i64 0, .int .i64 0, .int .i64 0]), 4, 32) := by kernel_rfl
def timeVals (l : List TimeD) : List Value := l.flatMap timeVs
theorem timeVals_app (a b : List TimeD) : timeVals (a ++ b) = timeVals a ++ timeVals b := by simp [timeVals]
theorem timeVals_len : ∀ l : List TimeD, (timeVals l).length = l.length * 4
  | [] => rfl
  | t :: r => by
    have := timeVals_len r
    unfold timeVals at this ⊢
    rw [List.flatMap_cons, List.length_append, this, List.length_cons]
    show 4 + _ = _
    omega
theorem timeVals_get : ∀ (l : List TimeD) (j : Nat) (t : TimeD), l[j]? = some t → ∀ (i : Nat) (v : Value), (timeVs t)[i]? = some v → (timeVals l)[j * 4 + i]? = some v
  | [], j, t, h, _, _, _ => by simp at h
  | a :: r, 0, t, h, i, v, hv => by
    simp at h
    subst h
    have hi : i < 4 := (List.getElem?_eq_some_iff.1 hv).1
    unfold timeVals
    rw [List.flatMap_cons, List.getElem?_append_left (by show _ < 4; omega)]
    simpa using hv
  | a :: r, j + 1, t, h, i, v, hv => by
    have := timeVals_get r j t (by simpa using h) i v hv
    unfold timeVals at this ⊢
    rw [List.flatMap_cons, List.getElem?_append_right (by show 4 ≤ _; omega)]
    show (List.flatMap timeVs r)[(j + 1) * 4 + i - 4]? = _
    rw [show (j + 1) * 4 + i - 4 = j * 4 + i by omega]
    exact this
theorem timeVals_one : ∀ (l : List TimeD), ∀ u ∈ timeVals l, u.oneCell' = true := by
  intro l u hu
  obtain ⟨t, _, h⟩ := List.mem_flatMap.1 hu
  simp [timeVs] at h
  rcases h with rfl | rfl | rfl | rfl <;> rfl
/-- A row of times that the call owns. -/
def TimeRow (w : World) (B : Nat) (v : Value) (l : List TimeD) : Prop := w.ownsRow B 55 4 v l.length (timeVals l)
theorem TimeRow.timesIn {w : World} {B : Nat} {v : Value} {l : List TimeD} (h : TimeRow w B v l) (hle : ∀ t ∈ l, t.2.2.1 ≤ 9223372036854775807) : ∃ A c, v = .slice A l.length c ∧ l.length ≤ c ∧ c ≤ 9223372036854775807 ∧ TimesIn w (fun b => B ≤ b ∧ b < w.heap.size) A l := by
  have h' := h
  rcases h.2 with ⟨hv, h0⟩ | ⟨g, cap, cur, hv, hB, hg, h1, h2, _⟩
  · have hl : l = [] := List.eq_nil_of_length_eq_zero h0
    subst hl
    exact ⟨none, 0, hv, Nat.le_refl _, by omega, TimesIn.nil _ _ _⟩
  · refine ⟨_, cap, hv, h1, by unfold maxLen at h2; omega, hle, .inr ⟨g, 0, rfl, ⟨hB, (Array.getElem?_eq_some_iff.1 hg).1⟩, fun j t hj i v' hv' => ?_⟩⟩
    have := World.ownsRow.cells h' (g := g) (by rw [hv]; rfl) (j * 4 + i) v' (timeVals_get l j t hj i v' hv')
    rw [Addr.add_lit] at this
    rw [← Nat.add_assoc] at this
    exact this
def probVs (p : ProbD) : List Value := [.int .i64 0, .int .i64 p.1, .int .i64 p.2.1, .int .i64 p.2.2]
def probVals (l : List ProbD) : List Value := l.flatMap probVs
theorem probVals_app (a b : List ProbD) : probVals (a ++ b) = probVals a ++ probVals b := by simp [probVals]
def ProbsRow (w : World) (B : Nat) (v : Value) (l : List ProbD) : Prop := w.ownsRow B 66 4 v l.length (probVals l)
/-- Rooms that the call owns, with what their slices lead to. -/
def roomVals (l : List (RoomD × Room5)) : List Value := l.flatMap fun p => roomVs p.1 p.2
theorem roomVals_app (a b : List (RoomD × Room5)) : roomVals (a ++ b) = roomVals a ++ roomVals b := by simp [roomVals]
theorem roomVals_get : ∀ (l : List (RoomD × Room5)) (j : Nat) (t : RoomD × Room5), l[j]? = some t → ∀ (i : Nat) (v : Value), (roomVs t.1 t.2)[i]? = some v → (roomVals l)[j * 5 + i]? = some v
  | [], j, t, h, _, _, _ => by simp at h
  | a :: r, 0, t, h, i, v, hv => by
    simp at h
    subst h
    have hi : i < 5 := (List.getElem?_eq_some_iff.1 hv).1
    unfold roomVals
    rw [List.flatMap_cons, List.getElem?_append_left (by show _ < 5; omega)]
    simpa using hv
  | a :: r, j + 1, t, h, i, v, hv => by
    have := roomVals_get r j t (by simpa using h) i v hv
    unfold roomVals at this ⊢
    rw [List.flatMap_cons, List.getElem?_append_right (by show 5 ≤ _; omega)]
    show (List.flatMap _ r)[(j + 1) * 5 + i - 5]? = _
    rw [show (j + 1) * 5 + i - 5 = j * 5 + i by omega]
    exact this
/-- The rooms l in a row of the call's own; what they lead to lies in blocks with P. -/
def RoomRow (w : World) (B : Nat) (P : Nat → Prop) (v : Value) (l : List RoomD) : Prop := ∃ L : List (RoomD × Room5), L.map (·.1) = l ∧ w.ownsRow B 46 5 v l.length (roomVals L) ∧ ∀ p ∈ L, RoomIn w P p.1 p.2
theorem RoomRow.roomsIn {w : World} {B : Nat} {P : Nat → Prop} {v : Value} {l : List RoomD} (h : RoomRow w B P v l) : ∃ A c, v = .slice A l.length c ∧ l.length ≤ c ∧ c ≤ 9223372036854775807 ∧ RoomsIn w (fun b => P b ∨ (B ≤ b ∧ b < w.heap.size)) A l := by
  obtain ⟨L, rfl, h, hL⟩ := h
  have h' := h
  rcases h.2 with ⟨hv, h0⟩ | ⟨g, cap, cur, hv, hB, hg, h1, h2, _⟩
  · have hl : L.map (·.1) = [] := List.eq_nil_of_length_eq_zero h0
    rw [hl]
    exact ⟨none, 0, by rw [hv]; rfl, Nat.le_refl _, by omega, .inl rfl⟩
  · refine ⟨_, cap, hv, h1, by unfold maxLen at h2; omega, .inr ⟨g, 0, rfl, .inr ⟨hB, (Array.getElem?_eq_some_iff.1 hg).1⟩, fun j r hj => ?_⟩⟩
    rw [List.getElem?_map] at hj
    obtain ⟨p, hp, rfl⟩ := Option.map_eq_some_iff.1 hj
    refine ⟨p.2, (hL p (List.mem_of_getElem? hp)).mono (fun b hb => .inl hb), fun i v' hv' => ?_⟩
    have := World.ownsRow.cells h' (g := g) (by rw [hv]; rfl) (j * 5 + i) v' (roomVals_get L j p hp i v' hv')
    rw [Addr.add_lit] at this
    rw [← Nat.add_assoc] at this
    exact this
end Go.Proofs.YteckefolakjafaaGreatDoor

set_option linter.unusedVariables false
namespace Go.Proofs.YteckefolakjafaaGreatDoor.S3
open Go Go.Proofs Go.RowKit Go.Lib

theorem drewN_heap (w : World) : ∀ (q b : Nat), (w.drewN q).heap[b]? = w.heap[b]?
  | 0, _ => rfl
  | q + 1, b => drewN_heap w q b
theorem take_eq_succ (la lb : List Str) (i : Nat) (hi : i < la.length) (hl : la.length = lb.length) (h : la.take i = lb.take i) : (la.take (i + 1) = lb.take (i + 1)) ↔ la[i] = lb[i]'(by omega) := by
  rw [List.take_add_one, List.take_add_one, List.getElem?_eq_getElem hi, List.getElem?_eq_getElem (show i < lb.length by omega), h]
  constructor
  · intro e
    simpa using List.append_cancel_left e
  · intro e
    rw [e]

set_option maxHeartbeats 2000000 in
set_option maxRecDepth 100000 in
theorem sameStrings_any (A A' : Option Addr) (la lb : List Str) (ca cb : Nat) (P P' : Nat → Prop) (w : World) (ha : StrsIn w P A la) (hb : StrsIn w P' A' lb) (h63 : la.length ≤ 9223372036854775807) :
    Calls Tryz.prog 28 #[.slice A la.length ca, .slice A' lb.length cb] w fun e w' => e = .returned (.bool (decide (la = lb))) ∧ ∃ q, w' = w.drewN q := by
  by_cases hl : la.length = lb.length
  · have hlz : ((la.length : Int) != (lb.length : Int)) = false := by simp [hl]
    obtain ⟨ANS, hANS⟩ : ∃ ANS, decide (la = lb) = ANS := ⟨_, rfl⟩
    rw [hANS]
    have HA := hid ha
    have HB := hid hb
    have HL := hid hl
    have HANS := hid hANS
    clear ha hb hl hANS
    go_enter Tryz.func28, Tryz.ntmps28
    go_wp2
    go_loopw [5] (fun iv wr => ∃ i : Nat, iv = .int .i64 (i : Int) ∧ i ≤ la.length ∧ Hid (la.take i = lb.take i) ∧ ∃ q, wr = w.drewN q) (fun iv _ => la.length - (RowKit.intOf iv).toNat)
    case atStart => exact ⟨0, rfl, Nat.zero_le _, hid rfl, 0, rfl⟩
    case round =>
      obtain ⟨i, rfl, hi, ht, q, rfl⟩ := hrel
      by_cases hlt : i < la.length
      · have hltz : (i : Int) < (la.length : Int) := by omega
        have hlt' : i < lb.length := by rw [← HL.out]; exact hlt
        have hltz' : (i : Int) < (lb.length : Int) := by omega
        obtain ⟨b1, o1, rfl, _, hc1⟩ := HA.out.at_ hlt
        obtain ⟨b2, o2, rfl, _, hc2⟩ := HB.out.at_ hlt'
        have hiff := take_eq_succ la lb i hlt HL.out ht.out
        obtain ⟨x, hx⟩ : ∃ x, la[i] = x := ⟨_, rfl⟩
        obtain ⟨y, hy⟩ : ∃ y, lb[i] = y := ⟨_, rfl⟩
        rw [hx] at hc1 hiff
        rw [hy] at hc2 hiff
        obtain ⟨X, hX⟩ : ∃ X : ByteArray, (⟨x.toArray⟩ : ByteArray) = X := ⟨_, rfl⟩
        obtain ⟨Y, hY⟩ : ∃ Y : ByteArray, (⟨y.toArray⟩ : ByteArray) = Y := ⟨_, rfl⟩
        have hXl : X.toList = x := by rw [Lib.toList_data, ← hX]
        have hYl : Y.toList = y := by rw [Lib.toList_data, ← hY]
        have e1 : strV x = .string X := by rw [← hX]; rfl
        have e2 : strV y = .string Y := by rw [← hY]; rfl
        rw [e1] at hc1
        rw [e2] at hc2
        have HIFF := hid hiff
        have HX := hid hx
        have HY := hid hy
        by_cases hxy : x = y
        · have hbe : (X.toList != Y.toList) = false := by rw [hXl, hYl, hxy]; simp
          have hbe2 : (X.toList == Y.toList) = true := by rw [hXl, hYl, hxy]; simp
          clear hiff hx hy hX hY hXl hYl e1 e2
          go_wp2
          go_quiet (fail)
          go_wp2
          go_roundw
          case rel => exact ⟨i + 1, by go_num, by omega, hid (HIFF.out.2 hxy), q + nq, rfl⟩
          case measure => simp [RowKit.intOf]; omega
        · have hbe : (X.toList != Y.toList) = true := by rw [hXl, hYl]; simpa using hxy
          have hbe2 : (X.toList == Y.toList) = false := by rw [hXl, hYl]; simpa using hxy
          have hf : ANS = false := by
            rw [← HANS.out]
            apply decide_eq_false
            intro e
            subst e
            exact hxy (by rw [← HX.out, ← HY.out])
          subst hf
          clear hiff hx hy hX hY hXl hYl e1 e2
          go_wp2
          go_quiet (fail)
          go_wp2
          go_ret
          exact ⟨rfl, q + nq, by rw [World.drewN_drewN]⟩
      · have hltz : ¬ (i : Int) < (la.length : Int) := by omega
        have hf : ANS = true := by
          rw [← HANS.out]
          apply decide_eq_true
          have h := ht.out
          rwa [List.take_of_length_le (by omega), List.take_of_length_le (by have := HL.out; omega)] at h
        subst hf
        go_wp2
        go_ret
        exact ⟨rfl, q, rfl⟩
  · have hlz : ((la.length : Int) != (lb.length : Int)) = true := by simp; omega
    have hf : decide (la = lb) = false := decide_eq_false (fun e => hl (by rw [e]))
    rw [hf]
    clear ha hb
    go_enter Tryz.func28, Tryz.ntmps28
    go_wp2
    go_ret
    exact ⟨rfl, 0, rfl⟩
end Go.Proofs.YteckefolakjafaaGreatDoor.S3

