/-
  The codes of a part of a list: the program's readPart. Conditions: the library's variables hold what its text lays; the part has fewer than 2^32 - 15 bytes; at most 64 codes may come.
-/
import Derived.Test.YtldnbneblpebiaaGreatDoorCheck
set_option linter.unusedVariables false
namespace Go.Proofs.YtldnbneblpebiaaGreatDoor
open Go Go.Proofs Go.RowKit Go.Lib

def dots2 : Str := [46, 46]
def befP (p : Str) : Str := (Lib.cut p dots2).1
def aftP (p : Str) : Str := (Lib.cut p dots2).2.1
def isP (p : Str) : Bool := (Lib.cut p dots2).2.2
def nP (p : Str) : Nat := if isP p = true then rangeN (befP p) (aftP p) else 1
/-- What a part of a list stands for, or its error. -/
def partM (p : Str) (most : Int) : List Str × Int :=
  if p = [] ∨ Lib.contains (aftP p) dots2 = true then ([], 4)
  else if validC (befP p) = false ∨ (isP p = true ∧ validC (aftP p) = false) then ([], 10)
  else if nP p = 0 then ([], 3) else if most < (nP p : Int) then ([], 2) else (expandL (befP p) (nP p), 0)
theorem validC_len {l : Str} (h : validC l = true) : l.length ≤ 16 := by
  unfold validC at h
  split at h
  · simp at h
  · simp only [Bool.and_eq_true, decide_eq_true_eq] at h
    exact h.1.1
/-- What readPart hands back. -/
def PartOut (r : List Str × Int) (w : World) (e : Ending) (w' : World) : Prop := (∃ v, e = .returned (.tuple #[v, .int .i64 r.2]) ∧ StrRow w' w.heap.size v r.1) ∧ Below w.heap.size w w'
theorem PartOut.err {w w' : World} {n : Int} (hb : Below w.heap.size w w') : PartOut ([], n) w (.returned (.tuple #[.slice none 0 0, .int .i64 n])) w' := ⟨⟨_, rfl, World.ownsRow_nil _ _ _ _⟩, hb⟩
theorem cut_len (p : Str) : (befP p).length ≤ p.length ∧ (aftP p).length ≤ p.length := by
  unfold befP aftP Lib.cut
  split <;> simp
  all_goals omega

set_option maxHeartbeats 4000000 in
set_option maxRecDepth 100000 in
theorem readPart_any (p : ByteArray) (most : Int) (hp : p.size < 4294967281) (hm : most ≤ 64) (w : World) (hE : Env w) :
    Calls Tryz.prog 44 #[.string p, .int .i64 most] w (PartOut (partM (lst p) most) w) := by
  obtain ⟨R, hR⟩ : ∃ R, partM (lst p) most = R := ⟨_, rfl⟩
  rw [hR]
  obtain ⟨m, hmx⟩ := hE.m
  have hcl := cut_len (lst p)
  rw [show (lst p).length = p.size from (Lib.size_eq p).symm] at hcl
  have cU := Tryz.strings_Cut p ⟨#[46, 46]⟩ m w hp hmx
  obtain ⟨F, hF⟩ : ∃ F : ByteArray, ba (befP (lst p)) = F := ⟨_, rfl⟩
  obtain ⟨G, hG⟩ : ∃ G : ByteArray, ba (aftP (lst p)) = G := ⟨_, rfl⟩
  obtain ⟨d, hd⟩ : ∃ d, isP (lst p) = d := ⟨_, rfl⟩
  rw [show (⟨(Lib.cut p.data.toList (⟨#[46, 46]⟩ : ByteArray).data.toList).1.toArray⟩ : ByteArray) = F from hF, show (⟨(Lib.cut p.data.toList (⟨#[46, 46]⟩ : ByteArray).data.toList).2.1.toArray⟩ : ByteArray) = G from hG,
    show (Lib.cut p.data.toList (⟨#[46, 46]⟩ : ByteArray).data.toList).2.2 = d from hd] at cU
  have lF : befP (lst p) = lst F := by rw [← hF]; rfl
  have lG : aftP (lst p) = lst G := by rw [← hG]; rfl
  have hGs : G.size < 4294967281 := by rw [show G.size = (lst G).length from Lib.size_eq G, ← lG]; omega
  have hdef : R = if (lst p) = [] ∨ Lib.contains (lst G) dots2 = true then ([], 4) else if validC (lst F) = false ∨ (d = true ∧ validC (lst G) = false) then ([], 10)
      else if (if d = true then rangeN (lst F) (lst G) else 1) = 0 then ([], 3) else if most < ((if d = true then rangeN (lst F) (lst G) else 1 : Nat) : Int) then ([], 2) else (expandL (lst F) (if d = true then rangeN (lst F) (lst G) else 1), 0) := by
    rw [← hR]
    unfold partM nP
    rw [lF, lG, hd]
  have HDEF := hid hdef
  have HE := hid hE
  have CU := hid cU
  have HM := hid hmx
  have cV := valid_any F
  have cW := valid_any G
  clear hR hF hG hd lF lG hdef cU hcl hmx hE
  by_cases h0 : 0 < p.size
  · obtain ⟨x1, x2, x3, x4⟩ := str_no h0
    have hne := hid (lst_ne h0)
    have cK := fun w hm => Tryz.strings_Contains G ⟨#[46, 46]⟩ m w hGs hm
    rw [show Lib.contains G.data.toList (⟨#[46, 46]⟩ : ByteArray).data.toList = Lib.contains (lst G) dots2 from rfl] at cK
    go_enter Tryz.func44, Tryz.ntmps44
    go_wp2_with fail
    refine CU.out.mono ?_
    rintro e w1 ⟨rfl, q, hw1⟩
    have hb1 : Below w.heap.size w w1 := by rw [hw1]; exact below_drewN (Below.refl _ _) q
    have hm1 : w1.cell? ⟨0, 0, none⟩ = some (.int .i64 m) := by rw [hw1]; exact HM.out
    have HE1 := hid (HE.out.below hb1)
    have HB1 := hid hb1
    have CK := hid (cK w1 hm1)
    clear hw1 hm1 hb1 cK CU HE HM
    cases hk : Lib.contains (lst G) dots2 with
    | true =>
      rw [hk] at CK
      have hr : Hid (R = ([], 4)) := hid (by rw [HDEF.out, if_pos (.inr hk)])
      clear hk
      go_wp2_with fail
      refine CK.out.mono ?_
      rintro e w2 ⟨rfl, rfl⟩
      go_wp2
      go_ret2
      rw [hr.out]
      exact PartOut.err HB1.out
    | false =>
      rw [hk] at CK
      have HD2 : Hid (R = if validC (lst F) = false ∨ (d = true ∧ validC (lst G) = false) then ([], 10)
        else if (if d = true then rangeN (lst F) (lst G) else 1) = 0 then ([], 3) else if most < ((if d = true then rangeN (lst F) (lst G) else 1 : Nat) : Int) then ([], 2) else (expandL (lst F) (if d = true then rangeN (lst F) (lst G) else 1), 0)) := hid (by
          rw [HDEF.out, if_neg]
          rintro (h | h)
          · exact hne.out h
          · rw [hk] at h; simp at h)
      clear hk HDEF
      cases hv : validC (lst F) with
      | false =>
        rw [hv] at cV
        have hr : Hid (R = ([], 10)) := hid (by rw [HD2.out, if_pos (.inl hv)])
        clear hv
        go_wp2_with fail
        refine CK.out.mono ?_
        rintro e w2 ⟨rfl, rfl⟩
        go_wp2_with fail
        refine (cV _).mono ?_
        rintro e w2 ⟨rfl, rfl⟩
        go_wp2
        go_ret2
        rw [hr.out]
        exact PartOut.err HB1.out
      | true =>
        rw [hv] at cV
        have hFs : F.size ≤ 16 := by rw [show F.size = (lst F).length from Lib.size_eq F]; exact validC_len hv
        have HV := hid hv
        clear hv
        cases d with
        | false =>
          have HD3 : Hid (R = if most < 1 then ([], 2) else (expandL (lst F) 1, 0)) := hid (by
            rw [HD2.out, if_neg (by rw [HV.out]; simp)]
            simp)
          clear HD2
          have cX := hid (fun w h => expand_any F 1 hFs (by omega) (by omega) w h)
          by_cases hmo : most < 1
          · have hz : decide (most < 1) = true := decide_eq_true hmo
            have hr : Hid (R = ([], 2)) := hid (by rw [HD3.out, if_pos hmo])
            go_wp2_with fail
            refine CK.out.mono ?_
            rintro e w2 ⟨rfl, rfl⟩
            go_wp2_with fail
            refine (cV _).mono ?_
            rintro e w2 ⟨rfl, rfl⟩
            go_wp2
            go_ret2
            rw [hr.out]
            exact PartOut.err HB1.out
          · have hz : decide (most < 1) = false := decide_eq_false hmo
            have hr : Hid (R = (expandL (lst F) 1, 0)) := hid (by rw [HD3.out, if_neg hmo])
            go_wp2_with fail
            refine CK.out.mono ?_
            rintro e w2 ⟨rfl, rfl⟩
            go_wp2_with fail
            refine (cV _).mono ?_
            rintro e w2 ⟨rfl, rfl⟩
            go_wp2_with fail
            refine (cX.out _ HE1.out).mono ?_
            rintro e w3 ⟨⟨v, rfl, hrow⟩, hb3⟩
            have HRow := hid (StrRow.mono hrow HB1.out.size)
            have HB3 := hid (HB1.out.trans (hb3.mono HB1.out.size))
            clear hrow hb3
            go_wp2
            go_ret2
            rw [hr.out]
            exact ⟨⟨_, rfl, HRow.out⟩, HB3.out⟩
        | true =>
          cases hvG : validC (lst G) with
          | false =>
            rw [hvG] at cW
            have hr : Hid (R = ([], 10)) := hid (by rw [HD2.out, if_pos (.inr ⟨by trivial, hvG⟩)])
            clear hvG
            go_wp2_with fail
            refine CK.out.mono ?_
            rintro e w2 ⟨rfl, rfl⟩
            go_wp2_with fail
            refine (cV _).mono ?_
            rintro e w2 ⟨rfl, rfl⟩
            go_wp2_with fail
            refine (cW _).mono ?_
            rintro e w2 ⟨rfl, rfl⟩
            go_wp2
            go_ret2
            rw [hr.out]
            exact PartOut.err HB1.out
          | true =>
            rw [hvG] at cW
            have hGs16 : G.size ≤ 16 := by rw [show G.size = (lst G).length from Lib.size_eq G]; exact validC_len hvG
            have cL := rangeLength_any F G hFs hGs16 w1 HE1.out
            obtain ⟨n, hn⟩ : ∃ n, rangeN (lst F) (lst G) = n := ⟨_, rfl⟩
            rw [hn] at cL
            have HD3 : Hid (R = if n = 0 then ([], 3) else if most < (n : Int) then ([], 2) else (expandL (lst F) n, 0)) := hid (by
              rw [HD2.out, if_neg (by rw [HV.out, hvG]; simp)]
              simp only [if_true, hn])
            have CL := hid cL
            clear HD2 hvG hn cL
            go_wp2_with fail
            refine CK.out.mono ?_
            rintro e w2 ⟨rfl, rfl⟩
            go_wp2_with fail
            refine (cV _).mono ?_
            rintro e w2 ⟨rfl, rfl⟩
            go_wp2_with fail
            refine (cW _).mono ?_
            rintro e w2 ⟨rfl, rfl⟩
            go_wp2_with fail
            refine CL.out.mono ?_
            rintro e w2 ⟨rfl, hb2⟩
            have HB2 := hid (HB1.out.trans (hb2.mono HB1.out.size))
            have HE2 := hid (HE1.out.below hb2)
            clear hb2 CL CK cV cW HE1 HB1
            by_cases hn0 : n = 0
            · have hz : ((n : Int) == 0) = true := by simp [hn0]
              have hr : Hid (R = ([], 3)) := hid (by rw [HD3.out, if_pos hn0])
              clear hn0
              go_wp2
              go_ret2
              rw [hr.out]
              exact PartOut.err HB2.out
            · have hz : ((n : Int) == 0) = false := by simpa using hn0
              by_cases hmo : most < (n : Int)
              · have hz2 : decide (most < (n : Int)) = true := decide_eq_true hmo
                have hr : Hid (R = ([], 2)) := hid (by rw [HD3.out, if_neg hn0, if_pos hmo])
                clear hn0
                go_wp2
                go_ret2
                rw [hr.out]
                exact PartOut.err HB2.out
              · have hz2 : decide (most < (n : Int)) = false := decide_eq_false hmo
                have hr : Hid (R = (expandL (lst F) n, 0)) := hid (by rw [HD3.out, if_neg hn0, if_neg hmo])
                have cX := hid (expand_any F n hFs (by omega) (by omega) w2 HE2.out)
                clear hn0
                go_wp2_with fail
                refine cX.out.mono ?_
                rintro e w3 ⟨⟨v, rfl, hrow⟩, hb3⟩
                have HRow := hid (StrRow.mono hrow HB2.out.size)
                have HB3 := hid (HB2.out.trans (hb3.mono HB2.out.size))
                clear hrow hb3
                go_wp2
                go_ret2
                rw [hr.out]
                exact ⟨⟨_, rfl, HRow.out⟩, HB3.out⟩
  · obtain ⟨x1, x2, x3, x4⟩ := str_yes h0
    have hr : Hid (R = ([], 4)) := hid (by rw [HDEF.out, if_pos (.inl (lst_nil h0))])
    go_enter Tryz.func44, Tryz.ntmps44
    go_wp2_with fail
    refine CU.out.mono ?_
    rintro e w1 ⟨rfl, q, hw1⟩
    have hb1 : Below w.heap.size w w1 := by rw [hw1]; exact below_drewN (Below.refl _ _) q
    have HB1 := hid hb1
    clear hw1 hb1
    go_wp2
    go_ret2
    rw [hr.out]
    exact PartOut.err HB1.out
end Go.Proofs.YtldnbneblpebiaaGreatDoor
