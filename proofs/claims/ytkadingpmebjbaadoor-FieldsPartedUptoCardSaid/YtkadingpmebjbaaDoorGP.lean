/- FieldsParted. -/
import Derived.Test.YtkadingpmebjbaaDoorGN
set_option linter.unusedVariables false
namespace Go.Proofs.YtkadingpmebjbaaDoor
open Go.RowKit

theorem in_one (n X : ByteArray) : inF n [X] = sameB n X := by simp [inF]
theorem wo_count (l : AL) (X : ByteArray) : (woF l [X]).length + (allF l X).length = l.length := by
  induction l with
  | nil => rfl
  | cons p r ih =>
    unfold woF allF at ih ⊢
    simp only [in_one] at ih ⊢
    simp only [List.filter_cons]
    cases h : sameB p.1 X
    · simp only [Bool.not_false, if_true, Bool.false_eq_true, if_false, List.length_cons]; omega
    · simp only [Bool.not_true, Bool.false_eq_true, if_false, if_true, List.length_cons, List.map_cons]; omega
theorem wo_mem {l : AL} {X : ByteArray} {p : ByteArray × ByteArray} (h : p ∈ woF l [X]) : sameB p.1 X = false := by
  unfold woF at h
  rw [List.mem_filter, in_one] at h
  simpa using h.2
theorem wo_none (l : AL) (X : ByteArray) : allF (woF l [X]) X = [] := by
  unfold allF
  rw [List.map_eq_nil_iff, List.filter_eq_nil_iff]
  intro p hp
  rw [wo_mem hp]; simp
theorem wo_again (l : AL) (X : ByteArray) : woF (woF l [X]) [X] = woF l [X] := by
  have h : ∀ p ∈ woF l [X], (!inF p.1 [X]) = true := fun p hp => by rw [in_one, wo_mem hp]; rfl
  show List.filter _ (woF l [X]) = woF l [X]
  exact List.filter_eq_self.2 h
theorem wo_nil (l : AL) : woF l [] = l := by
  unfold woF
  exact List.filter_eq_self.2 (fun p _ => rfl)
theorem wo_at (l : AL) (X : ByteArray) (k : Nat) (hk : k < l.length) (h : sameB l[k].1 X = false) : ∃ hj : (woF (l.take k) [X]).length < (woF l [X]).length, (woF l [X])[(woF (l.take k) [X]).length] = l[k] := by
  have e : woF l [X] = woF (l.take k) [X] ++ l[k] :: woF (l.drop (k + 1)) [X] := by
    conv => lhs; rw [← List.take_append_drop k l, drop_cons l k hk]
    unfold woF
    rw [List.filter_append, List.filter_cons, if_pos (by rw [in_one, h]; rfl)]
  generalize woF (l.take k) [X] = a at e ⊢
  rw [e]
  refine ⟨by simp, ?_⟩
  rw [List.getElem_append_right (Nat.le_refl _)]; simp

set_option maxHeartbeats 32000000 in
set_option maxRecDepth 100000 in
theorem fieldsParted_any (l : AL) (X : ByteArray) (av : Option Addr) (n c : Nat) (w : World) (hn : l.length = n) (hs : SrcA w av c l) (hz : asz l ≤ 536870912) (hX : X.size ≤ 536870912) :
    Calls Tryd.prog 7 #[.slice av n c, .string X] w fun e w' => e = .returned (.bool true) ∧ Below w.heap.size w w' := by
  have hnl := asz_len l
  have hnb : n ≤ 536870912 := by omega
  have HS := Lib.hid hs
  have H0 := Lib.hid fun wx => shown4_any wx
  have hW := fun a b d c wx (h : SrcA wx a c l) (h2 : SrcS wx b d [X]) => without_any l [X] a b n c 1 d wx hn rfl h h2 (by omega) (by simp only [bsz]; omega)
  have hC := fun a c wx (h : SrcA wx a c l) => count_any l X a n c wx hn h (by omega) (by omega)
  have hA := fun a c wx (h : SrcA wx a c l) => all_any l X a n c wx hn h (by omega) (by omega)
  have hW0 := fun c wx (a : Option Addr) (h : SrcA wx a c l) => without_any l [] a none n c 0 0 wx hn rfl h ⟨fun j hj => by simp at hj, by simp, fun _ => ⟨rfl, rfl⟩⟩ (by omega) (by simp [bsz])
  have hcnt := wo_count l X
  have hra := woF_asz l [X]
  rw [wo_nil] at hW0
  obtain ⟨R, hR⟩ : ∃ R, woF l [X] = R := ⟨_, rfl⟩
  have hno : allF R X = [] := by rw [← hR]; exact wo_none l X
  have hag : woF R [X] = R := by rw [← hR]; exact wo_again l X
  rw [hR] at hW hcnt hra
  obtain ⟨rn, hrn⟩ : ∃ rn, R.length = rn := ⟨_, rfl⟩
  obtain ⟨vn, hvn⟩ : ∃ vn, (allF l X).length = vn := ⟨_, rfl⟩
  have hC2 := fun a c wx (h : SrcA wx a c R) => count_any R X a rn c wx hrn h (by omega) (by omega)
  rw [hno] at hC2
  have hW2 := fun a b d c wx (h : SrcA wx a c R) (h2 : SrcS wx b d [X]) => without_any R [X] a b rn c 1 d wx hrn rfl h h2 (by omega) (by simp only [bsz]; omega)
  rw [hag] at hW2
  rw [hvn] at hC
  rw [hvn, hrn, hn] at hcnt
  have hA2 : ∀ a c wx, SrcA wx a c l → Calls Tryd.prog 25 #[.slice a n c, .string X] wx fun e w' => Below wx.heap.size wx w' ∧ ∃ a5 c5, e = .returned (.slice a5 vn c5) := fun a c wx h => (hA a c wx h).mono fun e w' ⟨h1, v, h2, h3⟩ => by
    obtain ⟨a5, c5, h4, _⟩ := strs_one _ _ _ _ h3
    rw [hvn] at h4
    exact ⟨h1, a5, c5, by rw [h2, h4]⟩
  have hat : ∀ k (hk : k < l.length), (sameB l[k].1 X = false → ∃ hj : (woF (l.take k) [X]).length < R.length, R[(woF (l.take k) [X]).length] = l[k]) := fun k hk h => by rw [← hR]; exact wo_at l X k hk h
  have hne : ∀ p ∈ R, sameB p.1 X = false := fun p hp => by rw [← hR] at hp; exact wo_mem hp
  have hend : (woF (l.take n) [X]).length = rn := by rw [← hn, List.take_length, hR, hrn]
  have HW := Lib.hid hW
  have HC := Lib.hid hC
  have HA := Lib.hid hA2
  have HW0 := Lib.hid hW0
  have HC2 : Hid (∀ a c wx, SrcA wx a c R → Calls Tryd.prog 28 #[.slice a rn c, .string X] wx fun e w' => e = .returned (.int .i64 0) ∧ Below wx.heap.size wx w') := Lib.hid hC2
  have HW2 := Lib.hid hW2
  have HCNT := Lib.hid hcnt
  have HAT := Lib.hid hat
  have HNE := Lib.hid hne
  have HEND := Lib.hid hend
  have HN := Lib.hid hn
  have HRN := Lib.hid hrn
  have HZ := Lib.hid hz
  have hXb : X.size ≤ 536870912 := hX
  have hj1 : (rn : Int) + (vn : Int) = (n : Int) := by omega
  have hrb : rn ≤ 536870912 := by omega
  have hvb : vn ≤ 536870912 := by omega
  have HJ1 := Lib.hid hj1
  clear hs hn hz hX hW hC hA hA2 hW0 hcnt hra hR hno hag hrn hvn hC2 hW2 hat hne hend hnl hj1
  go_enter Tryd.func7, Tryd.ntmps7
  go_wp2_with fail
  refine (H0.out _).mono ?_; rintro e w1 ⟨rfl, hb⟩
  have HB1 := Lib.hid hb
  have HB1a : Hid (Below w.heap.size w (w1.alloc (.cells #[.string X] 9))) := Lib.hid (hb.alloc hb.size _)
  have HS1 := Lib.hid (HS.out.below (Nat.le_refl _) HB1a.out)
  have HX1 := Lib.hid (lit_strs X w1)
  clear hb
  go_wp2_with fail
  refine (HW.out _ _ _ _ _ HS1.out HX1.out).mono ?_; rintro e w2 ⟨hb, v, rfl, hown⟩
  obtain ⟨a2, c2, hv, hs2⟩ := flds_one _ _ _ _ hown
  rw [HRN.out] at hv
  subst hv
  have HB2 := Lib.hid (app_below HB1a.out hb)
  have HS2 := Lib.hid (HS1.out.below (Nat.le_refl _) hb)
  have HR2 := Lib.hid hs2
  clear hb hown hs2
  go_wp2_with fail
  refine (HC.out _ _ _ HS2.out).mono ?_; rintro e w3 ⟨rfl, hb⟩
  have HB3 := Lib.hid (app_below HB2.out hb)
  have HS3 := Lib.hid (HS2.out.below (Nat.le_refl _) hb)
  have HR3 := Lib.hid (HR2.out.below (Nat.le_refl _) hb)
  clear hb
  have hj2 : ((rn : Int) + (vn : Int) == (n : Int)) = true := by have := HJ1.out; simp; omega
  have hj3 : ((rn : Int) + (vn : Int) != (n : Int)) = false := by have := HJ1.out; simp; omega
  go_wp2_with fail
  refine (HC2.out _ _ _ HR3.out).mono ?_; rintro e w4 ⟨rfl, hb⟩
  have HB4 := Lib.hid (app_below HB3.out hb)
  have HS4 := Lib.hid (HS3.out.below (Nat.le_refl _) hb)
  have HR4 := Lib.hid (HR3.out.below (Nat.le_refl _) hb)
  clear hb
  go_wp2_with fail
  refine (HA.out _ _ _ HS4.out).mono ?_; rintro e w5 ⟨hb, a5, c5, rfl⟩
  have HB5 := Lib.hid (app_below HB4.out hb)
  have HS5 := Lib.hid (HS4.out.below (Nat.le_refl _) hb)
  have HR5 := Lib.hid (HR4.out.below (Nat.le_refl _) hb)
  clear hb
  go_wp2_with fail
  refine (HC.out _ _ _ HS5.out).mono ?_; rintro e w6 ⟨rfl, hb⟩
  have HB6 := Lib.hid (app_below HB5.out hb)
  have HS6 := Lib.hid (HS5.out.below (Nat.le_refl _) hb)
  have HR6 := Lib.hid (HR5.out.below (Nat.le_refl _) hb)
  clear hb hj2 hj3
  go_wp2_with fail
  go_loopw [7, 8] (fun kv i wr => ∃ k : Nat, k ≤ n ∧ i = .int .i64 k ∧ kv = .int .i64 ((woF (l.take k) [X]).length : Nat) ∧ Below w6.heap.size w6 wr) (fun _ i _ => n - (intOf i).toNat)
  case atStart => exact ⟨0, by omega, rfl, rfl, Below.refl _ _⟩
  case round =>
    obtain ⟨k, hk, rfl, rfl, hb⟩ := hrel
    have HB := Lib.hid hb
    by_cases hlt : k < n
    case neg =>
      have hke : k = n := by omega
      have hend := HEND.out
      rw [← hke] at hend
      rw [hend]
      have HB7 : Hid (Below w.heap.size w wr) := Lib.hid (HB6.out.trans (hb.mono HB6.out.size))
      have HB7a : Hid (Below w.heap.size w (wr.alloc (.cells #[.string X] 9))) := Lib.hid (HB7.out.alloc HB7.out.size _)
      have HS7 := Lib.hid ((HS6.out.below (Nat.le_refl _) hb).below (Nat.le_refl _) ((Below.refl _ _).alloc (Nat.le_refl _) (.cells #[.string X] 9)))
      have HR7 := Lib.hid ((HR6.out.below (Nat.le_refl _) hb).below (Nat.le_refl _) ((Below.refl _ _).alloc (Nat.le_refl _) (.cells #[.string X] 9)))
      have HX7 := Lib.hid (lit_strs X wr)
      clear hb hend hlt
      have hdl : decide (k < n) = false := by simp; omega
      go_wp2_with fail
      refine (HW2.out _ _ _ _ _ HR7.out HX7.out).mono ?_; rintro e w8 ⟨hb, v, rfl, hown⟩
      obtain ⟨a8, c8, hv, hs8⟩ := flds_one _ _ _ _ hown
      rw [HRN.out] at hv
      subst hv
      have HB8 := Lib.hid (app_below HB7a.out hb)
      have HS8 := Lib.hid (HS7.out.below (Nat.le_refl _) hb)
      have HR8 := Lib.hid (HR7.out.below (Nat.le_refl _) hb)
      have HSA := Lib.hid (rfSame_eq a8 a2 rn c8 c2 R w8 HRN.out hs8 HR8.out (by omega))
      clear hb hown hs8
      go_wp2_with fail
      refine HSA.out.mono ?_; rintro e w9 ⟨rfl, hb⟩
      have HB9 := Lib.hid (app_below HB8.out hb)
      have HS9 := Lib.hid (HS8.out.below (Nat.le_refl _) hb)
      clear hb
      go_wp2_with fail
      refine (HW0.out _ _ _ HS9.out).mono ?_; rintro e w10 ⟨hb, v, rfl, hown⟩
      obtain ⟨a10, c10, hv, hs10⟩ := flds_one _ _ _ _ hown
      rw [HN.out] at hv
      subst hv
      have HB10 := Lib.hid (app_below HB9.out hb)
      have HS10 := Lib.hid (HS9.out.below (Nat.le_refl _) hb)
      have HSA2 := Lib.hid (rfSame_eq a10 av n c10 c l w10 HN.out hs10 HS10.out (by omega))
      clear hb hown hs10
      go_wp2_with fail
      refine HSA2.out.mono ?_; rintro e w11 ⟨rfl, hb⟩
      have HB11 := Lib.hid (app_below HB10.out hb)
      clear hb
      go_wp2
      go_ret
      exact ⟨rfl, HB11.out⟩
    case pos =>
      have hkl : k < l.length := by rw [HN.out]; exact hlt
      have HS7 := HS6.out.below (Nat.le_refl _) hb
      have HR7 := HR6.out.below (Nat.le_refl _) hb
      have hat := HAT.out k hkl
      have hne := HNE.out
      have hstep := woF_take l [X] k hkl
      rw [in_one] at hstep
      have haz := asz_at l k hkl
      have hzz := HZ.out
      obtain ⟨b0, o0, rfl, hb0, d1, d2⟩ := srcA_at HS7 k hkl (Below.refl _ _)
      obtain ⟨kr, hkr⟩ : ∃ kr, (woF (l.take k) [X]).length = kr := ⟨_, rfl⟩
      have hkrn : kr ≤ n := by rw [← hkr]; have := woF_len (l.take k) [X]; rw [List.length_take] at this; omega
      obtain ⟨p, hp⟩ : ∃ p, l[k] = p := ⟨_, rfl⟩
      rw [hp] at d1 d2 hat hstep haz
      rw [hkr] at hat ⊢
      obtain ⟨Nm, Vl⟩ := p
      simp only at d1 d2 hat hstep haz
      have hsm : ∀ wx, Calls Tryd.prog 35 #[.string Nm, .string X] wx fun e w' => e = .returned (.bool (sameB Nm X)) ∧ Below wx.heap.size wx w' := fun wx => same_any Nm X wx (by omega) (by omega)
      have hdl : decide (k < n) = true := by simp; omega
      cases q : sameB Nm X with
      | false =>
        obtain ⟨hj, he⟩ := hat q
        have hjr : kr < rn := by rw [← HRN.out]; exact hj
        obtain ⟨b2, o2, hb2e, hb2, e1, e2⟩ := srcA_at HR7 kr hj (Below.refl _ _)
        rw [he] at e1 e2
        subst hb2e
        rw [q] at hsm hstep
        have HST : Hid ((woF (l.take (k + 1)) [X]).length = kr + 1) := Lib.hid (by rw [hstep]; simp [hkr])
        have HSM := Lib.hid hsm
        have hdk : decide (kr < rn) = true := by simp; omega
        have hdk2 : (kr : Int) < (rn : Int) := by omega
        have KT : Hid (∀ x y : World, (Below wr.heap.size wr x ∧ x.cell? ⟨b0, o0 + k * 2, none⟩ = some (.string Nm) ∧ x.cell? ⟨b0, o0 + k * 2 + 1, none⟩ = some (.string Vl) ∧ x.cell? ⟨b2, o2 + kr * 2, none⟩ = some (.string Nm) ∧ x.cell? ⟨b2, o2 + kr * 2 + 1, none⟩ = some (.string Vl)) → Below x.heap.size x y →
            (Below wr.heap.size wr y ∧ y.cell? ⟨b0, o0 + k * 2, none⟩ = some (.string Nm) ∧ y.cell? ⟨b0, o0 + k * 2 + 1, none⟩ = some (.string Vl) ∧ y.cell? ⟨b2, o2 + kr * 2, none⟩ = some (.string Nm) ∧ y.cell? ⟨b2, o2 + kr * 2 + 1, none⟩ = some (.string Vl))) := Lib.hid fun x y ⟨h1, h2, h3, h4, h5⟩ hb =>
          ⟨h1.trans (hb.mono h1.size), (hb.cell (p := ⟨b0, o0 + k * 2, none⟩) (Nat.lt_of_lt_of_le hb0 h1.size)).trans h2, (hb.cell (p := ⟨b0, o0 + k * 2 + 1, none⟩) (Nat.lt_of_lt_of_le hb0 h1.size)).trans h3, (hb.cell (p := ⟨b2, o2 + kr * 2, none⟩) (Nat.lt_of_lt_of_le hb2 h1.size)).trans h4, (hb.cell (p := ⟨b2, o2 + kr * 2 + 1, none⟩) (Nat.lt_of_lt_of_le hb2 h1.size)).trans h5⟩
        have K0 : Hid (Below wr.heap.size wr wr ∧ wr.cell? ⟨b0, o0 + k * 2, none⟩ = some (.string Nm) ∧ wr.cell? ⟨b0, o0 + k * 2 + 1, none⟩ = some (.string Vl) ∧ wr.cell? ⟨b2, o2 + kr * 2, none⟩ = some (.string Nm) ∧ wr.cell? ⟨b2, o2 + kr * 2 + 1, none⟩ = some (.string Vl)) := Lib.hid ⟨Below.refl _ _, d1, d2, e1, e2⟩
        clear hb HS7 HR7 hat hne hstep haz hzz hkr hp q hj he hkl hsm
        go_wp2_with fail
        go_region_held3 (fun w' => Below wr.heap.size wr w' ∧ w'.cell? ⟨b0, o0 + k * 2, none⟩ = some (.string Nm) ∧ w'.cell? ⟨b0, o0 + k * 2 + 1, none⟩ = some (.string Vl) ∧ w'.cell? ⟨b2, o2 + kr * 2, none⟩ = some (.string Nm) ∧ w'.cell? ⟨b2, o2 + kr * 2 + 1, none⟩ = some (.string Vl)) (first | exact KT.out _ _ K0.out (Below.refl _ _).drew | exact KT.out _ _ (by assumption) hb)
          (first | (go_at_call_of 35 (Value.string Nm); refine (HSM.out _).mono ?_; rintro e w' ⟨rfl, hb⟩))
        have hHS := KT.out _ _ (by assumption) (Below.refl _ _)
        have HB3 := Lib.hid (HB.out.trans (hHS.1.mono HB.out.size))
        clear hHS
        go_wp2
        go_roundw
        case rel => exact ⟨k + 1, by omega, by go_num, by rw [HST.out]; go_num, HB3.out⟩
        case measure => simp [intOf]; omega
      | true =>
        rw [q] at hstep
        simp only [if_true, List.append_nil] at hstep
        have HST : Hid ((woF (l.take (k + 1)) [X]).length = kr) := Lib.hid (by rw [hstep]; exact hkr)
        by_cases hjr : kr < rn
        · have hj : kr < R.length := by rw [HRN.out]; exact hjr
          obtain ⟨b2, o2, hb2e, hb2, e1, e2⟩ := srcA_at HR7 kr hj (Below.refl _ _)
          have hnq := hne R[kr] (List.getElem_mem hj)
          obtain ⟨p2, hp2⟩ : ∃ p2, R[kr] = p2 := ⟨_, rfl⟩
          rw [hp2] at e1 e2 hnq
          obtain ⟨Nm2, Vl2⟩ := p2
          simp only at e1 e2 hnq
          subst hb2e
          have hdf : Nm ≠ Nm2 := fun e => by rw [e, hnq] at q; cases q
          have f2 : (Nm.toList == Nm2.toList) = false := by
            rw [toList_data', toList_data']
            simp; intro h; exact hdf (by apply ByteArray.ext; rw [← Array.toArray_toList (xs := Nm.data), h])
          have hdk : decide (kr < rn) = true := by simp; omega
          have hdk2 : (kr : Int) < (rn : Int) := by omega
          clear hb HS7 HR7 hat hne hstep haz hzz hkr hp q hj hkl hsm hnq hp2 hdf
          go_wp2_with fail
          go_quiet (fail)
          go_wp2
          go_roundw
          case rel => exact ⟨k + 1, by omega, by go_num, by rw [HST.out], HB.out.trans (below_drewN _ _)⟩
          case measure => simp [intOf]; omega
        · have hdk : decide (kr < rn) = false := by simp; omega
          have hdk2 : ¬ (kr : Int) < (rn : Int) := by omega
          clear hb HS7 HR7 hat hne hstep haz hzz hkr hp q hkl hsm
          go_wp2_with fail
          go_quiet (fail)
          go_wp2
          go_roundw
          case rel => exact ⟨k + 1, by omega, by go_num, by rw [HST.out], HB.out.trans (below_drewN _ _)⟩
          case measure => simp [intOf]; omega
end Go.Proofs.YtkadingpmebjbaaDoor
