/- FieldsMembers. -/
import Derived.Test.YtkadingpmebjbaaDoorGN
set_option linter.unusedVariables false
namespace Go.Proofs.YtkadingpmebjbaaDoor
open Go.RowKit

set_option maxHeartbeats 32000000 in
set_option maxRecDepth 100000 in
theorem fieldsMembers_any (l : AL) (X : ByteArray) (av : Option Addr) (n c : Nat) (w : World) (hn : l.length = n) (hs : SrcA w av c l) (hz : asz l ≤ 536870912) (hX : X.size ≤ 1073741824) :
    Calls Tryd.prog 6 #[.slice av n c, .string X] w fun e w' => e = .returned (.bool true) ∧ Below w.heap.size w w' := by
  have HS := Lib.hid hs
  have H0 := Lib.hid fun wx => shown4_any wx
  have hM := fun a c wx (h : SrcA wx a c l) => members_any l X a n c wx hn h (by omega) hX
  have hR := fun a c wx (h : SrcA wx a c l) => rMembers_any l X a n c wx hn h (by omega) hX
  have hA := fun a c wx (h : SrcA wx a c l) => all_any l X a n c wx hn h (by omega) hX
  have hbz := allF_bsz l X
  generalize allF l X = vs at hM hR hA hbz
  have hml := memF_len vs
  have hvl := bsz_len vs
  cases hq : memF vs with
  | none =>
    rw [hq] at hM hR
    have HM : Hid (∀ a c wx, SrcA wx a c l → Calls Tryd.prog 32 #[.slice a n c, .string X] wx fun e w' => Below wx.heap.size wx w' ∧ e = .returned (.tuple #[.slice none 0 0, .int .i64 5])) := Lib.hid hM
    have HR : Hid (∀ a c wx, SrcA wx a c l → Calls Tryd.prog 33 #[.slice a n c, .string X] wx fun e w' => Below wx.heap.size wx w' ∧ e = .returned (.tuple #[.slice none 0 0, .int .i64 5])) := Lib.hid hR
    have HSA := Lib.hid fun wx => sameList_eq none none 0 0 0 [] wx rfl ⟨fun j hj => by simp at hj, by simp, fun _ => ⟨rfl, rfl⟩⟩ ⟨fun j hj => by simp at hj, by simp, fun _ => ⟨rfl, rfl⟩⟩ (by omega)
    clear hM hR hA hq hml hvl hbz hs hn hz hX
    go_enter Tryd.func6, Tryd.ntmps6
    go_wp2_with fail
    refine (H0.out _).mono ?_; rintro e w1 ⟨rfl, hb⟩
    have HB1 := Lib.hid hb
    have HS1 := Lib.hid (HS.out.below (Nat.le_refl _) hb)
    clear hb
    go_wp2_with fail
    refine (HM.out _ _ _ HS1.out).mono ?_; rintro e w2 ⟨hb, rfl⟩
    have HB2 := Lib.hid (app_below HB1.out hb)
    have HS2 := Lib.hid (HS1.out.below (Nat.le_refl _) hb)
    clear hb
    go_wp2_with fail
    refine (HR.out _ _ _ HS2.out).mono ?_; rintro e w3 ⟨hb, rfl⟩
    have HB3 := Lib.hid (app_below HB2.out hb)
    clear hb
    go_wp2_with fail
    refine (HSA.out _).mono ?_; rintro e w4 ⟨rfl, hb⟩
    have HB4 := Lib.hid (app_below HB3.out hb)
    clear hb
    go_wp2
    go_ret
    exact ⟨rfl, HB4.out⟩
  | some ms =>
    have hmb := hml ms hq
    have hjo := joinF_mem vs ms hq
    have hjl := joinF_len vs
    rw [hq] at hM hR
    obtain ⟨k1, hk1⟩ : ∃ k1, ms.length = k1 := ⟨_, rfl⟩
    obtain ⟨vn, hvn⟩ : ∃ vn, vs.length = vn := ⟨_, rfl⟩
    obtain ⟨M, hMm⟩ : ∃ M, ms.map mk = M := ⟨_, rfl⟩
    have hMl : M.length = k1 := by rw [← hMm, List.length_map, hk1]
    have HM : Hid (∀ a c wx, SrcA wx a c l → Calls Tryd.prog 32 #[.slice a n c, .string X] wx fun e w' => Below wx.heap.size wx w' ∧ ∃ v, e = .returned (.tuple #[v, .int .i64 0]) ∧ OwnS w' wx.heap.size v M) := Lib.hid (by rw [← hMm]; exact hM)
    have HR : Hid (∀ a c wx, SrcA wx a c l → Calls Tryd.prog 33 #[.slice a n c, .string X] wx fun e w' => Below wx.heap.size wx w' ∧ ∃ v, e = .returned (.tuple #[v, .int .i64 0]) ∧ OwnS w' wx.heap.size v M) := Lib.hid (by rw [← hMm]; exact hR)
    have HA := Lib.hid hA
    have HL : Hid (∀ T : ByteArray, T.data.toList = joinF vs → ∀ wx, Calls Tryd.prog 34 #[.string T] wx fun e w' => Below wx.heap.size wx w' ∧ ∃ v, e = .returned (.tuple #[v, .int .i64 0]) ∧ OwnS w' wx.heap.size v M) := Lib.hid fun T hT wx => by
      have hTs : T.size ≤ 1073741824 := by rw [← len_data, hT]; omega
      have := list_any T wx hTs
      rw [hT, hjo] at this
      rw [← hMm]; exact this
    have HML := Lib.hid hMl
    have HVN := Lib.hid hvn
    have HBZ : Hid (bsz vs ≤ 536870912) := Lib.hid (by omega)
    have hkb : k1 ≤ 1073741824 := by omega
    have hvb : vn ≤ 1073741824 := by omega
    clear hM hR hA hq hml hvl hbz hs hn hz hX hmb hjo hjl hk1 hvn hMm hMl
    go_enter Tryd.func6, Tryd.ntmps6
    go_wp2_with fail
    refine (H0.out _).mono ?_; rintro e w1 ⟨rfl, hb⟩
    have HB1 := Lib.hid hb
    have HS1 := Lib.hid (HS.out.below (Nat.le_refl _) hb)
    clear hb
    go_wp2_with fail
    refine (HM.out _ _ _ HS1.out).mono ?_; rintro e w2 ⟨hb, v, rfl, hown⟩
    obtain ⟨a2, c2, hv, hs2, _⟩ := strs_one _ _ _ _ hown
    rw [HML.out] at hv
    subst hv
    have HB2 := Lib.hid (app_below HB1.out hb)
    have HS2 := Lib.hid (HS1.out.below (Nat.le_refl _) hb)
    have HM2 := Lib.hid hs2
    clear hb hown hs2
    go_wp2_with fail
    refine (HR.out _ _ _ HS2.out).mono ?_; rintro e w3 ⟨hb, v, rfl, hown⟩
    obtain ⟨a3, c3, hv, hs3, _⟩ := strs_one _ _ _ _ hown
    rw [HML.out] at hv
    subst hv
    have HB3 := Lib.hid (app_below HB2.out hb)
    have HS3 := Lib.hid (HS2.out.below (Nat.le_refl _) hb)
    have HM3 := Lib.hid (HM2.out.below hb)
    have HSA := Lib.hid (sameList_eq a2 a3 k1 c2 c3 M w3 HML.out HM3.out hs3 (by omega))
    clear hb hown hs3
    go_wp2_with fail
    refine HSA.out.mono ?_; rintro e w4 ⟨rfl, hb⟩
    have HB4 := Lib.hid (app_below HB3.out hb)
    have HS4 := Lib.hid (HS3.out.below (Nat.le_refl _) hb)
    have HM4 := Lib.hid (HM3.out.below hb)
    clear hb
    go_wp2_with fail
    refine (HA.out _ _ _ HS4.out).mono ?_; rintro e w5 ⟨hb, v, rfl, hown⟩
    obtain ⟨a5, c5, hv, hs5, _⟩ := strs_one _ _ _ _ hown
    rw [HVN.out] at hv
    subst hv
    have HB5 := Lib.hid (app_below HB4.out hb)
    have HM5 := Lib.hid (HM4.out.below hb)
    have HV5 := Lib.hid hs5
    clear hb hown hs5
    go_wp2_with fail
    go_loop [12, 13] (fun t i => ∃ (k : Nat) (T : ByteArray), k ≤ vn ∧ i = .int .i64 k ∧ t = .string T ∧ T.data.toList = joinF (vs.take k)) (fun _ i => vn - (intOf i).toNat)
    case atStart => exact ⟨0, ⟨#[]⟩, by omega, rfl, rfl, rfl⟩
    case round =>
      obtain ⟨k, T, hk, rfl, rfl, hT⟩ := hrel
      by_cases hlt : k < vn
      case neg =>
        have hkv : vs.take k = vs := List.take_of_length_le (by rw [HVN.out]; omega)
        rw [hkv] at hT
        have HLT := Lib.hid (HL.out T hT)
        clear hT hkv
        go_wp2_with fail
        refine (HLT.out _).mono ?_; rintro e w6 ⟨hb, v, rfl, hown⟩
        obtain ⟨a6, c6, hv, hs6, _⟩ := strs_one _ _ _ _ hown
        rw [HML.out] at hv
        subst hv
        have HB6 := Lib.hid (app_below HB5.out hb)
        have HSA := Lib.hid (sameList_eq a6 a2 k1 c6 c2 M w6 HML.out hs6 (HM5.out.below hb) (by omega))
        clear hb hown hs6
        go_wp2_with fail
        refine HSA.out.mono ?_; rintro e w7 ⟨rfl, hb⟩
        have HB7 := Lib.hid (app_below HB6.out hb)
        clear hb
        go_wp2
        go_ret
        exact ⟨rfl, HB7.out⟩
      case pos =>
        have hkl : k < vs.length := by rw [HVN.out]; exact hlt
        obtain ⟨b0, o0, rfl, hb0, hc⟩ := HV5.out.at_ k hkl
        have hjt := joinF_take vs k hkl
        have hjl := joinF_len (vs.take k)
        have hbt := bsz_take vs k hkl
        have hbz := HBZ.out
        rw [← hT] at hjt hjl
        rw [len_data] at hjl
        generalize vs[k] = V at hc hjt hbt
        by_cases h0 : k = 0
        · have h1 : ¬ (0 : Int) < (k : Int) := by omega
          rw [if_pos h0, List.append_nil] at hjt
          have y1 : ¬ 9223372036854775807 < T.size + V.size := by omega
          have HJ : Hid ((T ++ V).data.toList = joinF (vs.take (k + 1))) := Lib.hid (by rw [cat_list, hjt])
          clear hjt hjl hbt hbz hT hkl h0
          go_wp2
          go_round
          case rel => exact ⟨k + 1, _, by omega, by go_num, rfl, HJ.out⟩
          case measure => simp [intOf]; omega
        · have h1 : (0 : Int) < (k : Int) := by omega
          rw [if_neg h0] at hjt
          have z1 : (T ++ (⟨#[44]⟩ : ByteArray)).size = T.size + 1 := cat_size _ _
          have y1 : ¬ 9223372036854775807 < T.size + (⟨#[44]⟩ : ByteArray).size := by have : (⟨#[44]⟩ : ByteArray).size = 1 := rfl; omega
          have y2 : ¬ 9223372036854775807 < (T ++ (⟨#[44]⟩ : ByteArray)).size + V.size := by omega
          have HJ : Hid (((T ++ (⟨#[44]⟩ : ByteArray)) ++ V).data.toList = joinF (vs.take (k + 1))) := Lib.hid (by rw [cat_list, cat_list, hjt])
          clear hjt hjl hbt hbz hT hkl h0 z1
          go_wp2
          go_round
          case rel => exact ⟨k + 1, _, by omega, by go_num, rfl, HJ.out⟩
          case measure => simp [intOf]; omega
end Go.Proofs.YtkadingpmebjbaaDoor
