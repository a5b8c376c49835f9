/- Whether a mark belongs to a drawing or formula. -/
import Derived.Test.YtopmahhlebkjiaaD
namespace Go.Proofs.Ytopmahhlebkjiaa
open Go.RowKit
set_option linter.unusedSimpArgs false

theorem ret_bool {a b : Bool} (h : a = b) : Ending.returned (.bool a) = .returned (.bool b) := by rw [h]

def isGlyph (mn : List UInt8) : Bool := mn == [109, 103, 108, 121, 112, 104] || mn == [109, 97, 108, 105, 103, 110, 109, 97, 114, 107]
def isSvg (mn : List UInt8) : Bool := mn == [115, 118, 103]
/-- does the mark belong to the drawing or formula, the top's point being p -/
def fg (space : Int) (nm : List UInt8) (p kind : Int) (mn : List UInt8) : Bool :=
  if (space = 1 ∨ space = 2) ∧ kind ≠ 6 then
    if p = 1 ∧ (kind = 1 ∨ kind = 2 ∧ isGlyph mn = false) then false
    else if p = 2 ∧ (kind = 1 ∨ kind = 2) then false
    else !(decide (space = 2) && (isAnn nm && (decide (kind = 2) && isSvg mn)))
  else false

set_option maxHeartbeats 4000000 in
theorem foreign_any (space : Int) (s : ByteArray) (w : World) (a : Option Addr) (n c : Nat) (l : List (ByteArray × ByteArray)) (h : Attrs w a n l) (kind : Int) (mn : ByteArray) (la : Value) (sf : Bool) (tx : ByteArray) :
    Calls Try.prog 11 #[.int .i64 space, .string s, .slice a n c, .agg #[.int .i64 kind, .string mn, la, .bool sf, .string tx]] w fun e w' => e = .returned (.bool (fg space s.toList (pt space s.toList l) kind mn.toList)) ∧ Below w.heap.size w w' := by
  have hp : ∀ wx, Below w.heap.size w wx → Calls Try.prog 9 #[.int .i64 space, .string s, .slice a n c] wx fun e w' => e = .returned (.int .i64 (pt space s.toList l)) ∧ Below wx.heap.size wx w' := fun wx hb => point_any space s wx a n c l (h.below hb)
  have hv := pt_vals space s.toList l
  generalize hp0 : pt space s.toList l = p at hp hv
  generalize hr : fg space s.toList p kind mn.toList = r
  have hbx : ∀ cs t, Below w.heap.size w (w.alloc (.cells cs t)) := fun cs t => (Below.refl _ _).alloc (Nat.le_refl _) _
  have HBX := Lib.hid hbx
  have HP := Lib.hid hp
  clear h hp hp0 hbx
  by_cases e1 : space = 1
  · subst e1
    by_cases k6 : kind = 6
    · subst k6
      have HV : Hid (r = false) := Lib.hid (by rw [← hr]; simp [fg, isGlyph, isSvg, isAnn])
      clear hr
      go_enter Try.func11, Try.ntmps11
      go_wp2
      go_ret
      exact ⟨ret_bool HV.out.symm, HBX.out _ _⟩
    by_cases k1 : kind = 1
    · subst k1
      clear k6
      rcases hv with rfl | rfl | rfl
      · have HV : Hid (r = true) := Lib.hid (by rw [← hr]; simp [fg, isGlyph, isSvg, isAnn])
        clear hr
        go_enter Try.func11, Try.ntmps11
        go_wp2
        go_quiet (fail)
        go_wp2_with fail
        refine (HP.out _ ?_).mono ?_
        · exact below_drewN (HBX.out _ _) _
        rintro e w2 ⟨rfl, hb⟩
        have hcm : w2.cell? ⟨w.heap.size, 1, none⟩ = some (.string mn) := (hb.cell (p := ⟨w.heap.size, 1, none⟩) (by simp)).trans (by rw [World.cell?_drewN, World.cell?_alloc_new]; rfl)
        have HB := Lib.hid ((below_drewN (HBX.out _ _) _).trans (hb.mono (by simp)))
        clear hb
        go_wp2
        go_ret
        exact ⟨ret_bool HV.out.symm, HB.out⟩
      · have HV : Hid (r = false) := Lib.hid (by rw [← hr]; simp [fg, isGlyph, isSvg, isAnn])
        clear hr
        go_enter Try.func11, Try.ntmps11
        go_wp2
        go_quiet (fail)
        go_wp2_with fail
        refine (HP.out _ ?_).mono ?_
        · exact below_drewN (HBX.out _ _) _
        rintro e w2 ⟨rfl, hb⟩
        have hcm : w2.cell? ⟨w.heap.size, 1, none⟩ = some (.string mn) := (hb.cell (p := ⟨w.heap.size, 1, none⟩) (by simp)).trans (by rw [World.cell?_drewN, World.cell?_alloc_new]; rfl)
        have HB := Lib.hid ((below_drewN (HBX.out _ _) _).trans (hb.mono (by simp)))
        clear hb
        go_wp2
        go_ret
        exact ⟨ret_bool HV.out.symm, HB.out⟩
      · have HV : Hid (r = false) := Lib.hid (by rw [← hr]; simp [fg, isGlyph, isSvg, isAnn])
        clear hr
        go_enter Try.func11, Try.ntmps11
        go_wp2
        go_quiet (fail)
        go_wp2_with fail
        refine (HP.out _ ?_).mono ?_
        · exact below_drewN (HBX.out _ _) _
        rintro e w2 ⟨rfl, hb⟩
        have hcm : w2.cell? ⟨w.heap.size, 1, none⟩ = some (.string mn) := (hb.cell (p := ⟨w.heap.size, 1, none⟩) (by simp)).trans (by rw [World.cell?_drewN, World.cell?_alloc_new]; rfl)
        have HB := Lib.hid ((below_drewN (HBX.out _ _) _).trans (hb.mono (by simp)))
        clear hb
        go_wp2
        go_ret
        exact ⟨ret_bool HV.out.symm, HB.out⟩
    by_cases k2 : kind = 2
    · subst k2
      clear k6 k1
      rcases hv with rfl | rfl | rfl
      · have HV : Hid (r = true) := Lib.hid (by rw [← hr]; simp [fg, isGlyph, isSvg, isAnn])
        clear hr
        go_enter Try.func11, Try.ntmps11
        go_wp2
        go_quiet (fail)
        go_wp2_with fail
        refine (HP.out _ ?_).mono ?_
        · exact below_drewN (HBX.out _ _) _
        rintro e w2 ⟨rfl, hb⟩
        have hcm : w2.cell? ⟨w.heap.size, 1, none⟩ = some (.string mn) := (hb.cell (p := ⟨w.heap.size, 1, none⟩) (by simp)).trans (by rw [World.cell?_drewN, World.cell?_alloc_new]; rfl)
        have HB := Lib.hid ((below_drewN (HBX.out _ _) _).trans (hb.mono (by simp)))
        clear hb
        go_wp2
        go_ret
        exact ⟨ret_bool HV.out.symm, HB.out⟩
      · cases hg : (mn.toList == [109, 103, 108, 121, 112, 104])
        · cases hm : (mn.toList == [109, 97, 108, 105, 103, 110, 109, 97, 114, 107])
          · have HV : Hid (r = false) := Lib.hid (by rw [← hr]; simp [fg, isGlyph, isSvg, isAnn, hg, hm])
            clear hr
            go_enter Try.func11, Try.ntmps11
            go_wp2
            go_quiet (fail)
            go_wp2_with fail
            refine (HP.out _ ?_).mono ?_
            · exact below_drewN (HBX.out _ _) _
            rintro e w2 ⟨rfl, hb⟩
            have hcm : w2.cell? ⟨w.heap.size, 1, none⟩ = some (.string mn) := (hb.cell (p := ⟨w.heap.size, 1, none⟩) (by simp)).trans (by rw [World.cell?_drewN, World.cell?_alloc_new]; rfl)
            have HB := Lib.hid ((below_drewN (HBX.out _ _) _).trans (hb.mono (by simp)))
            clear hb
            go_wp2
            go_ret
            exact ⟨ret_bool HV.out.symm, HB.out⟩
          · have HV : Hid (r = true) := Lib.hid (by rw [← hr]; simp [fg, isGlyph, isSvg, isAnn, hg, hm])
            clear hr
            go_enter Try.func11, Try.ntmps11
            go_wp2
            go_quiet (fail)
            go_wp2_with fail
            refine (HP.out _ ?_).mono ?_
            · exact below_drewN (HBX.out _ _) _
            rintro e w2 ⟨rfl, hb⟩
            have hcm : w2.cell? ⟨w.heap.size, 1, none⟩ = some (.string mn) := (hb.cell (p := ⟨w.heap.size, 1, none⟩) (by simp)).trans (by rw [World.cell?_drewN, World.cell?_alloc_new]; rfl)
            have HB := Lib.hid ((below_drewN (HBX.out _ _) _).trans (hb.mono (by simp)))
            clear hb
            go_wp2
            go_ret
            exact ⟨ret_bool HV.out.symm, HB.out⟩
        · have HV : Hid (r = true) := Lib.hid (by rw [← hr]; simp [fg, isGlyph, isSvg, isAnn, hg])
          clear hr
          go_enter Try.func11, Try.ntmps11
          go_wp2
          go_quiet (fail)
          go_wp2_with fail
          refine (HP.out _ ?_).mono ?_
          · exact below_drewN (HBX.out _ _) _
          rintro e w2 ⟨rfl, hb⟩
          have hcm : w2.cell? ⟨w.heap.size, 1, none⟩ = some (.string mn) := (hb.cell (p := ⟨w.heap.size, 1, none⟩) (by simp)).trans (by rw [World.cell?_drewN, World.cell?_alloc_new]; rfl)
          have HB := Lib.hid ((below_drewN (HBX.out _ _) _).trans (hb.mono (by simp)))
          clear hb
          go_wp2
          go_ret
          exact ⟨ret_bool HV.out.symm, HB.out⟩
      · have HV : Hid (r = false) := Lib.hid (by rw [← hr]; simp [fg, isGlyph, isSvg, isAnn])
        clear hr
        go_enter Try.func11, Try.ntmps11
        go_wp2
        go_quiet (fail)
        go_wp2_with fail
        refine (HP.out _ ?_).mono ?_
        · exact below_drewN (HBX.out _ _) _
        rintro e w2 ⟨rfl, hb⟩
        have hcm : w2.cell? ⟨w.heap.size, 1, none⟩ = some (.string mn) := (hb.cell (p := ⟨w.heap.size, 1, none⟩) (by simp)).trans (by rw [World.cell?_drewN, World.cell?_alloc_new]; rfl)
        have HB := Lib.hid ((below_drewN (HBX.out _ _) _).trans (hb.mono (by simp)))
        clear hb
        go_wp2
        go_ret
        exact ⟨ret_bool HV.out.symm, HB.out⟩
    have b6 : (kind == 6) = false := beq_eq_false_iff_ne.2 k6
    have b1 : (kind == 1) = false := beq_eq_false_iff_ne.2 k1
    have b2 : (kind == 2) = false := beq_eq_false_iff_ne.2 k2
    rcases hv with rfl | rfl | rfl
    · have HV : Hid (r = true) := Lib.hid (by rw [← hr]; simp [fg, isGlyph, isSvg, isAnn, k6, k1, k2])
      clear hr
      go_enter Try.func11, Try.ntmps11
      go_wp2
      go_quiet (fail)
      go_wp2_with fail
      refine (HP.out _ ?_).mono ?_
      · exact below_drewN (HBX.out _ _) _
      rintro e w2 ⟨rfl, hb⟩
      have hcm : w2.cell? ⟨w.heap.size, 1, none⟩ = some (.string mn) := (hb.cell (p := ⟨w.heap.size, 1, none⟩) (by simp)).trans (by rw [World.cell?_drewN, World.cell?_alloc_new]; rfl)
      have HB := Lib.hid ((below_drewN (HBX.out _ _) _).trans (hb.mono (by simp)))
      clear hb
      go_wp2
      go_ret
      exact ⟨ret_bool HV.out.symm, HB.out⟩
    · have HV : Hid (r = true) := Lib.hid (by rw [← hr]; simp [fg, isGlyph, isSvg, isAnn, k6, k1, k2])
      clear hr
      go_enter Try.func11, Try.ntmps11
      go_wp2
      go_quiet (fail)
      go_wp2_with fail
      refine (HP.out _ ?_).mono ?_
      · exact below_drewN (HBX.out _ _) _
      rintro e w2 ⟨rfl, hb⟩
      have hcm : w2.cell? ⟨w.heap.size, 1, none⟩ = some (.string mn) := (hb.cell (p := ⟨w.heap.size, 1, none⟩) (by simp)).trans (by rw [World.cell?_drewN, World.cell?_alloc_new]; rfl)
      have HB := Lib.hid ((below_drewN (HBX.out _ _) _).trans (hb.mono (by simp)))
      clear hb
      go_wp2
      go_ret
      exact ⟨ret_bool HV.out.symm, HB.out⟩
    · have HV : Hid (r = true) := Lib.hid (by rw [← hr]; simp [fg, isGlyph, isSvg, isAnn, k6, k1, k2])
      clear hr
      go_enter Try.func11, Try.ntmps11
      go_wp2
      go_quiet (fail)
      go_wp2_with fail
      refine (HP.out _ ?_).mono ?_
      · exact below_drewN (HBX.out _ _) _
      rintro e w2 ⟨rfl, hb⟩
      have hcm : w2.cell? ⟨w.heap.size, 1, none⟩ = some (.string mn) := (hb.cell (p := ⟨w.heap.size, 1, none⟩) (by simp)).trans (by rw [World.cell?_drewN, World.cell?_alloc_new]; rfl)
      have HB := Lib.hid ((below_drewN (HBX.out _ _) _).trans (hb.mono (by simp)))
      clear hb
      go_wp2
      go_ret
      exact ⟨ret_bool HV.out.symm, HB.out⟩
  by_cases e2 : space = 2
  · subst e2
    clear e1
    by_cases k6 : kind = 6
    · subst k6
      have HV : Hid (r = false) := Lib.hid (by rw [← hr]; simp [fg, isGlyph, isSvg, isAnn])
      clear hr
      go_enter Try.func11, Try.ntmps11
      go_wp2
      go_ret
      exact ⟨ret_bool HV.out.symm, HBX.out _ _⟩
    by_cases k1 : kind = 1
    · subst k1
      clear k6
      rcases hv with rfl | rfl | rfl
      · cases ha : (s.toList == [97, 110, 110, 111, 116, 97, 116, 105, 111, 110, 45, 120, 109, 108])
        · have HV : Hid (r = true) := Lib.hid (by rw [← hr]; simp [fg, isGlyph, isSvg, isAnn, ha])
          clear hr
          go_enter Try.func11, Try.ntmps11
          go_wp2
          go_quiet (fail)
          go_wp2_with fail
          refine (HP.out _ ?_).mono ?_
          · exact below_drewN (HBX.out _ _) _
          rintro e w2 ⟨rfl, hb⟩
          have hcm : w2.cell? ⟨w.heap.size, 1, none⟩ = some (.string mn) := (hb.cell (p := ⟨w.heap.size, 1, none⟩) (by simp)).trans (by rw [World.cell?_drewN, World.cell?_alloc_new]; rfl)
          have HB := Lib.hid ((below_drewN (HBX.out _ _) _).trans (hb.mono (by simp)))
          clear hb
          go_wp2
          go_ret
          exact ⟨ret_bool HV.out.symm, HB.out⟩
        · have HV : Hid (r = true) := Lib.hid (by rw [← hr]; simp [fg, isGlyph, isSvg, isAnn, ha])
          clear hr
          go_enter Try.func11, Try.ntmps11
          go_wp2
          go_quiet (fail)
          go_wp2_with fail
          refine (HP.out _ ?_).mono ?_
          · exact below_drewN (HBX.out _ _) _
          rintro e w2 ⟨rfl, hb⟩
          have hcm : w2.cell? ⟨w.heap.size, 1, none⟩ = some (.string mn) := (hb.cell (p := ⟨w.heap.size, 1, none⟩) (by simp)).trans (by rw [World.cell?_drewN, World.cell?_alloc_new]; rfl)
          have HB := Lib.hid ((below_drewN (HBX.out _ _) _).trans (hb.mono (by simp)))
          clear hb
          go_wp2
          go_ret
          exact ⟨ret_bool HV.out.symm, HB.out⟩
      · have HV : Hid (r = false) := Lib.hid (by rw [← hr]; simp [fg, isGlyph, isSvg, isAnn])
        clear hr
        go_enter Try.func11, Try.ntmps11
        go_wp2
        go_quiet (fail)
        go_wp2_with fail
        refine (HP.out _ ?_).mono ?_
        · exact below_drewN (HBX.out _ _) _
        rintro e w2 ⟨rfl, hb⟩
        have hcm : w2.cell? ⟨w.heap.size, 1, none⟩ = some (.string mn) := (hb.cell (p := ⟨w.heap.size, 1, none⟩) (by simp)).trans (by rw [World.cell?_drewN, World.cell?_alloc_new]; rfl)
        have HB := Lib.hid ((below_drewN (HBX.out _ _) _).trans (hb.mono (by simp)))
        clear hb
        go_wp2
        go_ret
        exact ⟨ret_bool HV.out.symm, HB.out⟩
      · have HV : Hid (r = false) := Lib.hid (by rw [← hr]; simp [fg, isGlyph, isSvg, isAnn])
        clear hr
        go_enter Try.func11, Try.ntmps11
        go_wp2
        go_quiet (fail)
        go_wp2_with fail
        refine (HP.out _ ?_).mono ?_
        · exact below_drewN (HBX.out _ _) _
        rintro e w2 ⟨rfl, hb⟩
        have hcm : w2.cell? ⟨w.heap.size, 1, none⟩ = some (.string mn) := (hb.cell (p := ⟨w.heap.size, 1, none⟩) (by simp)).trans (by rw [World.cell?_drewN, World.cell?_alloc_new]; rfl)
        have HB := Lib.hid ((below_drewN (HBX.out _ _) _).trans (hb.mono (by simp)))
        clear hb
        go_wp2
        go_ret
        exact ⟨ret_bool HV.out.symm, HB.out⟩
    by_cases k2 : kind = 2
    · subst k2
      clear k6 k1
      rcases hv with rfl | rfl | rfl
      · cases ha : (s.toList == [97, 110, 110, 111, 116, 97, 116, 105, 111, 110, 45, 120, 109, 108])
        · have HV : Hid (r = true) := Lib.hid (by rw [← hr]; simp [fg, isGlyph, isSvg, isAnn, ha])
          clear hr
          go_enter Try.func11, Try.ntmps11
          go_wp2
          go_quiet (fail)
          go_wp2_with fail
          refine (HP.out _ ?_).mono ?_
          · exact below_drewN (HBX.out _ _) _
          rintro e w2 ⟨rfl, hb⟩
          have hcm : w2.cell? ⟨w.heap.size, 1, none⟩ = some (.string mn) := (hb.cell (p := ⟨w.heap.size, 1, none⟩) (by simp)).trans (by rw [World.cell?_drewN, World.cell?_alloc_new]; rfl)
          have HB := Lib.hid ((below_drewN (HBX.out _ _) _).trans (hb.mono (by simp)))
          clear hb
          go_wp2
          go_ret
          exact ⟨ret_bool HV.out.symm, HB.out⟩
        · cases hs : (mn.toList == [115, 118, 103])
          · have HV : Hid (r = true) := Lib.hid (by rw [← hr]; simp [fg, isGlyph, isSvg, isAnn, ha, hs])
            clear hr
            go_enter Try.func11, Try.ntmps11
            go_wp2
            go_quiet (fail)
            go_wp2_with fail
            refine (HP.out _ ?_).mono ?_
            · exact below_drewN (HBX.out _ _) _
            rintro e w2 ⟨rfl, hb⟩
            have hcm : w2.cell? ⟨w.heap.size, 1, none⟩ = some (.string mn) := (hb.cell (p := ⟨w.heap.size, 1, none⟩) (by simp)).trans (by rw [World.cell?_drewN, World.cell?_alloc_new]; rfl)
            have HB := Lib.hid ((below_drewN (HBX.out _ _) _).trans (hb.mono (by simp)))
            clear hb
            go_wp2
            go_ret
            exact ⟨ret_bool HV.out.symm, HB.out⟩
          · have HV : Hid (r = false) := Lib.hid (by rw [← hr]; simp [fg, isGlyph, isSvg, isAnn, ha, hs])
            clear hr
            go_enter Try.func11, Try.ntmps11
            go_wp2
            go_quiet (fail)
            go_wp2_with fail
            refine (HP.out _ ?_).mono ?_
            · exact below_drewN (HBX.out _ _) _
            rintro e w2 ⟨rfl, hb⟩
            have hcm : w2.cell? ⟨w.heap.size, 1, none⟩ = some (.string mn) := (hb.cell (p := ⟨w.heap.size, 1, none⟩) (by simp)).trans (by rw [World.cell?_drewN, World.cell?_alloc_new]; rfl)
            have HB := Lib.hid ((below_drewN (HBX.out _ _) _).trans (hb.mono (by simp)))
            clear hb
            go_wp2
            go_ret
            exact ⟨ret_bool HV.out.symm, HB.out⟩
      · cases hg : (mn.toList == [109, 103, 108, 121, 112, 104])
        · cases hm : (mn.toList == [109, 97, 108, 105, 103, 110, 109, 97, 114, 107])
          · have HV : Hid (r = false) := Lib.hid (by rw [← hr]; simp [fg, isGlyph, isSvg, isAnn, hg, hm])
            clear hr
            go_enter Try.func11, Try.ntmps11
            go_wp2
            go_quiet (fail)
            go_wp2_with fail
            refine (HP.out _ ?_).mono ?_
            · exact below_drewN (HBX.out _ _) _
            rintro e w2 ⟨rfl, hb⟩
            have hcm : w2.cell? ⟨w.heap.size, 1, none⟩ = some (.string mn) := (hb.cell (p := ⟨w.heap.size, 1, none⟩) (by simp)).trans (by rw [World.cell?_drewN, World.cell?_alloc_new]; rfl)
            have HB := Lib.hid ((below_drewN (HBX.out _ _) _).trans (hb.mono (by simp)))
            clear hb
            go_wp2
            go_ret
            exact ⟨ret_bool HV.out.symm, HB.out⟩
          · cases ha : (s.toList == [97, 110, 110, 111, 116, 97, 116, 105, 111, 110, 45, 120, 109, 108])
            · have HV : Hid (r = true) := Lib.hid (by rw [← hr]; simp [fg, isGlyph, isSvg, isAnn, hg, hm, ha])
              clear hr
              go_enter Try.func11, Try.ntmps11
              go_wp2
              go_quiet (fail)
              go_wp2_with fail
              refine (HP.out _ ?_).mono ?_
              · exact below_drewN (HBX.out _ _) _
              rintro e w2 ⟨rfl, hb⟩
              have hcm : w2.cell? ⟨w.heap.size, 1, none⟩ = some (.string mn) := (hb.cell (p := ⟨w.heap.size, 1, none⟩) (by simp)).trans (by rw [World.cell?_drewN, World.cell?_alloc_new]; rfl)
              have HB := Lib.hid ((below_drewN (HBX.out _ _) _).trans (hb.mono (by simp)))
              clear hb
              go_wp2
              go_ret
              exact ⟨ret_bool HV.out.symm, HB.out⟩
            · cases hs : (mn.toList == [115, 118, 103])
              · have HV : Hid (r = true) := Lib.hid (by rw [← hr]; simp [fg, isGlyph, isSvg, isAnn, hg, hm, ha, hs])
                clear hr
                go_enter Try.func11, Try.ntmps11
                go_wp2
                go_quiet (fail)
                go_wp2_with fail
                refine (HP.out _ ?_).mono ?_
                · exact below_drewN (HBX.out _ _) _
                rintro e w2 ⟨rfl, hb⟩
                have hcm : w2.cell? ⟨w.heap.size, 1, none⟩ = some (.string mn) := (hb.cell (p := ⟨w.heap.size, 1, none⟩) (by simp)).trans (by rw [World.cell?_drewN, World.cell?_alloc_new]; rfl)
                have HB := Lib.hid ((below_drewN (HBX.out _ _) _).trans (hb.mono (by simp)))
                clear hb
                go_wp2
                go_ret
                exact ⟨ret_bool HV.out.symm, HB.out⟩
              · have HV : Hid (r = false) := Lib.hid (by rw [← hr]; simp [fg, isGlyph, isSvg, isAnn, hg, hm, ha, hs])
                clear hr
                go_enter Try.func11, Try.ntmps11
                go_wp2
                go_quiet (fail)
                go_wp2_with fail
                refine (HP.out _ ?_).mono ?_
                · exact below_drewN (HBX.out _ _) _
                rintro e w2 ⟨rfl, hb⟩
                have hcm : w2.cell? ⟨w.heap.size, 1, none⟩ = some (.string mn) := (hb.cell (p := ⟨w.heap.size, 1, none⟩) (by simp)).trans (by rw [World.cell?_drewN, World.cell?_alloc_new]; rfl)
                have HB := Lib.hid ((below_drewN (HBX.out _ _) _).trans (hb.mono (by simp)))
                clear hb
                go_wp2
                go_ret
                exact ⟨ret_bool HV.out.symm, HB.out⟩
        · cases ha : (s.toList == [97, 110, 110, 111, 116, 97, 116, 105, 111, 110, 45, 120, 109, 108])
          · have HV : Hid (r = true) := Lib.hid (by rw [← hr]; simp [fg, isGlyph, isSvg, isAnn, hg, ha])
            clear hr
            go_enter Try.func11, Try.ntmps11
            go_wp2
            go_quiet (fail)
            go_wp2_with fail
            refine (HP.out _ ?_).mono ?_
            · exact below_drewN (HBX.out _ _) _
            rintro e w2 ⟨rfl, hb⟩
            have hcm : w2.cell? ⟨w.heap.size, 1, none⟩ = some (.string mn) := (hb.cell (p := ⟨w.heap.size, 1, none⟩) (by simp)).trans (by rw [World.cell?_drewN, World.cell?_alloc_new]; rfl)
            have HB := Lib.hid ((below_drewN (HBX.out _ _) _).trans (hb.mono (by simp)))
            clear hb
            go_wp2
            go_ret
            exact ⟨ret_bool HV.out.symm, HB.out⟩
          · cases hs : (mn.toList == [115, 118, 103])
            · have HV : Hid (r = true) := Lib.hid (by rw [← hr]; simp [fg, isGlyph, isSvg, isAnn, hg, ha, hs])
              clear hr
              go_enter Try.func11, Try.ntmps11
              go_wp2
              go_quiet (fail)
              go_wp2_with fail
              refine (HP.out _ ?_).mono ?_
              · exact below_drewN (HBX.out _ _) _
              rintro e w2 ⟨rfl, hb⟩
              have hcm : w2.cell? ⟨w.heap.size, 1, none⟩ = some (.string mn) := (hb.cell (p := ⟨w.heap.size, 1, none⟩) (by simp)).trans (by rw [World.cell?_drewN, World.cell?_alloc_new]; rfl)
              have HB := Lib.hid ((below_drewN (HBX.out _ _) _).trans (hb.mono (by simp)))
              clear hb
              go_wp2
              go_ret
              exact ⟨ret_bool HV.out.symm, HB.out⟩
            · have HV : Hid (r = false) := Lib.hid (by rw [← hr]; simp [fg, isGlyph, isSvg, isAnn, hg, ha, hs])
              clear hr
              go_enter Try.func11, Try.ntmps11
              go_wp2
              go_quiet (fail)
              go_wp2_with fail
              refine (HP.out _ ?_).mono ?_
              · exact below_drewN (HBX.out _ _) _
              rintro e w2 ⟨rfl, hb⟩
              have hcm : w2.cell? ⟨w.heap.size, 1, none⟩ = some (.string mn) := (hb.cell (p := ⟨w.heap.size, 1, none⟩) (by simp)).trans (by rw [World.cell?_drewN, World.cell?_alloc_new]; rfl)
              have HB := Lib.hid ((below_drewN (HBX.out _ _) _).trans (hb.mono (by simp)))
              clear hb
              go_wp2
              go_ret
              exact ⟨ret_bool HV.out.symm, HB.out⟩
      · have HV : Hid (r = false) := Lib.hid (by rw [← hr]; simp [fg, isGlyph, isSvg, isAnn])
        clear hr
        go_enter Try.func11, Try.ntmps11
        go_wp2
        go_quiet (fail)
        go_wp2_with fail
        refine (HP.out _ ?_).mono ?_
        · exact below_drewN (HBX.out _ _) _
        rintro e w2 ⟨rfl, hb⟩
        have hcm : w2.cell? ⟨w.heap.size, 1, none⟩ = some (.string mn) := (hb.cell (p := ⟨w.heap.size, 1, none⟩) (by simp)).trans (by rw [World.cell?_drewN, World.cell?_alloc_new]; rfl)
        have HB := Lib.hid ((below_drewN (HBX.out _ _) _).trans (hb.mono (by simp)))
        clear hb
        go_wp2
        go_ret
        exact ⟨ret_bool HV.out.symm, HB.out⟩
    have b6 : (kind == 6) = false := beq_eq_false_iff_ne.2 k6
    have b1 : (kind == 1) = false := beq_eq_false_iff_ne.2 k1
    have b2 : (kind == 2) = false := beq_eq_false_iff_ne.2 k2
    rcases hv with rfl | rfl | rfl
    · cases ha : (s.toList == [97, 110, 110, 111, 116, 97, 116, 105, 111, 110, 45, 120, 109, 108])
      · have HV : Hid (r = true) := Lib.hid (by rw [← hr]; simp [fg, isGlyph, isSvg, isAnn, k6, k1, k2, ha])
        clear hr
        go_enter Try.func11, Try.ntmps11
        go_wp2
        go_quiet (fail)
        go_wp2_with fail
        refine (HP.out _ ?_).mono ?_
        · exact below_drewN (HBX.out _ _) _
        rintro e w2 ⟨rfl, hb⟩
        have hcm : w2.cell? ⟨w.heap.size, 1, none⟩ = some (.string mn) := (hb.cell (p := ⟨w.heap.size, 1, none⟩) (by simp)).trans (by rw [World.cell?_drewN, World.cell?_alloc_new]; rfl)
        have HB := Lib.hid ((below_drewN (HBX.out _ _) _).trans (hb.mono (by simp)))
        clear hb
        go_wp2
        go_ret
        exact ⟨ret_bool HV.out.symm, HB.out⟩
      · have HV : Hid (r = true) := Lib.hid (by rw [← hr]; simp [fg, isGlyph, isSvg, isAnn, k6, k1, k2, ha])
        clear hr
        go_enter Try.func11, Try.ntmps11
        go_wp2
        go_quiet (fail)
        go_wp2_with fail
        refine (HP.out _ ?_).mono ?_
        · exact below_drewN (HBX.out _ _) _
        rintro e w2 ⟨rfl, hb⟩
        have hcm : w2.cell? ⟨w.heap.size, 1, none⟩ = some (.string mn) := (hb.cell (p := ⟨w.heap.size, 1, none⟩) (by simp)).trans (by rw [World.cell?_drewN, World.cell?_alloc_new]; rfl)
        have HB := Lib.hid ((below_drewN (HBX.out _ _) _).trans (hb.mono (by simp)))
        clear hb
        go_wp2
        go_ret
        exact ⟨ret_bool HV.out.symm, HB.out⟩
    · cases ha : (s.toList == [97, 110, 110, 111, 116, 97, 116, 105, 111, 110, 45, 120, 109, 108])
      · have HV : Hid (r = true) := Lib.hid (by rw [← hr]; simp [fg, isGlyph, isSvg, isAnn, k6, k1, k2, ha])
        clear hr
        go_enter Try.func11, Try.ntmps11
        go_wp2
        go_quiet (fail)
        go_wp2_with fail
        refine (HP.out _ ?_).mono ?_
        · exact below_drewN (HBX.out _ _) _
        rintro e w2 ⟨rfl, hb⟩
        have hcm : w2.cell? ⟨w.heap.size, 1, none⟩ = some (.string mn) := (hb.cell (p := ⟨w.heap.size, 1, none⟩) (by simp)).trans (by rw [World.cell?_drewN, World.cell?_alloc_new]; rfl)
        have HB := Lib.hid ((below_drewN (HBX.out _ _) _).trans (hb.mono (by simp)))
        clear hb
        go_wp2
        go_ret
        exact ⟨ret_bool HV.out.symm, HB.out⟩
      · have HV : Hid (r = true) := Lib.hid (by rw [← hr]; simp [fg, isGlyph, isSvg, isAnn, k6, k1, k2, ha])
        clear hr
        go_enter Try.func11, Try.ntmps11
        go_wp2
        go_quiet (fail)
        go_wp2_with fail
        refine (HP.out _ ?_).mono ?_
        · exact below_drewN (HBX.out _ _) _
        rintro e w2 ⟨rfl, hb⟩
        have hcm : w2.cell? ⟨w.heap.size, 1, none⟩ = some (.string mn) := (hb.cell (p := ⟨w.heap.size, 1, none⟩) (by simp)).trans (by rw [World.cell?_drewN, World.cell?_alloc_new]; rfl)
        have HB := Lib.hid ((below_drewN (HBX.out _ _) _).trans (hb.mono (by simp)))
        clear hb
        go_wp2
        go_ret
        exact ⟨ret_bool HV.out.symm, HB.out⟩
    · cases ha : (s.toList == [97, 110, 110, 111, 116, 97, 116, 105, 111, 110, 45, 120, 109, 108])
      · have HV : Hid (r = true) := Lib.hid (by rw [← hr]; simp [fg, isGlyph, isSvg, isAnn, k6, k1, k2, ha])
        clear hr
        go_enter Try.func11, Try.ntmps11
        go_wp2
        go_quiet (fail)
        go_wp2_with fail
        refine (HP.out _ ?_).mono ?_
        · exact below_drewN (HBX.out _ _) _
        rintro e w2 ⟨rfl, hb⟩
        have hcm : w2.cell? ⟨w.heap.size, 1, none⟩ = some (.string mn) := (hb.cell (p := ⟨w.heap.size, 1, none⟩) (by simp)).trans (by rw [World.cell?_drewN, World.cell?_alloc_new]; rfl)
        have HB := Lib.hid ((below_drewN (HBX.out _ _) _).trans (hb.mono (by simp)))
        clear hb
        go_wp2
        go_ret
        exact ⟨ret_bool HV.out.symm, HB.out⟩
      · have HV : Hid (r = true) := Lib.hid (by rw [← hr]; simp [fg, isGlyph, isSvg, isAnn, k6, k1, k2, ha])
        clear hr
        go_enter Try.func11, Try.ntmps11
        go_wp2
        go_quiet (fail)
        go_wp2_with fail
        refine (HP.out _ ?_).mono ?_
        · exact below_drewN (HBX.out _ _) _
        rintro e w2 ⟨rfl, hb⟩
        have hcm : w2.cell? ⟨w.heap.size, 1, none⟩ = some (.string mn) := (hb.cell (p := ⟨w.heap.size, 1, none⟩) (by simp)).trans (by rw [World.cell?_drewN, World.cell?_alloc_new]; rfl)
        have HB := Lib.hid ((below_drewN (HBX.out _ _) _).trans (hb.mono (by simp)))
        clear hb
        go_wp2
        go_ret
        exact ⟨ret_bool HV.out.symm, HB.out⟩
  have b1 : (space == 1) = false := beq_eq_false_iff_ne.2 e1
  have b2 : (space == 2) = false := beq_eq_false_iff_ne.2 e2
  have HV : Hid (r = false) := Lib.hid (by rw [← hr]; simp [fg, isGlyph, isSvg, isAnn, e1, e2])
  clear hr
  go_enter Try.func11, Try.ntmps11
  go_wp2
  go_ret
  exact ⟨ret_bool HV.out.symm, HBX.out _ _⟩
end Go.Proofs.Ytopmahhlebkjiaa
