/- How a body ends: the document's answer: body, Request, Response. -/
import Derived.Test.YtkadingpmebjbaaDoorQF
set_option linter.unusedVariables false
namespace Go.Proofs.YtkadingpmebjbaaDoor
open Go.RowKit

theorem one_grow (w : World) (o1 : Obj) : Below w.heap.size w (w.alloc o1) := (Below.refl w.heap.size w).alloc (Nat.le_refl _) o1
theorem one_below (w w2 : World) (o1 : Obj) (hb : Below (w.alloc o1).heap.size (w.alloc o1) w2) : Below w.heap.size w w2 := (one_grow w o1).trans (hb.mono (by simp))
set_option maxHeartbeats 16000000 in
set_option maxRecDepth 100000 in
theorem qbody_any (l : AL) (nb : Bool) (opn : Int) (av : Option Addr) (n c : Nat) (w : World) (hn : l.length = n) (hs : SrcA w av c l) (hz : asz l ≤ 1073741824) :
    Calls Tryd.prog 66 #[.slice av n c, .bool nb, .int .i64 opn] w (BdSays (fbody l nb opn) w) := by
  have hnb : n ≤ 1073741824 := by have := asz_len l; omega
  have hT := fun wx (hb : Below w.heap.size w wx) => rAll_any l kTE av n c wx hn (hs.below (Nat.le_refl _) hb) hz (by decide)
  have hC := fun wx (hb : Below w.heap.size w wx) => rAll_any l kCL av n c wx hn (hs.below (Nat.le_refl _) hb) hz (by decide)
  have hco := fun wx (hb : Below w.heap.size w wx) => qchunked_any l av n c wx hn (hs.below (Nat.le_refl _) hb) hz
  have hle := fun wx (hb : Below w.heap.size w wx) => qlength_any l av n c wx hn (hs.below (Nat.le_refl _) hb) hz
  have hl1 := allF_len l kTE
  have hl2 := allF_len l kCL
  have hfp := flen_pos l
  obtain ⟨R, hR⟩ : ∃ R, R = fbody l nb opn := ⟨_, rfl⟩
  rw [← hR]
  unfold fbody fread at hR
  obtain ⟨nT, hnT⟩ : ∃ nT, (allF l kTE).length = nT := ⟨_, rfl⟩
  obtain ⟨nC, hnC⟩ : ∃ nC, (allF l kCL).length = nC := ⟨_, rfl⟩
  rw [hnT, hnC] at hR
  rw [hnT] at hl1
  rw [hnC] at hl2
  have hb1 : nT ≤ 1073741824 := by omega
  have hb2 : nC ≤ 1073741824 := by omega
  have HT : Hid (∀ wx, Below w.heap.size w wx → Calls Tryd.prog 26 #[.slice av n c, .string ⟨#[116, 114, 97, 110, 115, 102, 101, 114, 45, 101, 110, 99, 111, 100, 105, 110, 103]⟩] wx fun e w' => Below wx.heap.size wx w' ∧ ∃ a c, e = .returned (.slice a nT c)) := Lib.hid fun wx hb => (hT wx hb).mono fun e w' ⟨h1, v, h2, h3⟩ => by
    obtain ⟨a, c, h4, _⟩ := strs_one _ _ _ _ h3
    rw [hnT] at h4
    exact ⟨h1, a, c, by rw [h2, h4]⟩
  have HC : Hid (∀ wx, Below w.heap.size w wx → Calls Tryd.prog 26 #[.slice av n c, .string ⟨#[99, 111, 110, 116, 101, 110, 116, 45, 108, 101, 110, 103, 116, 104]⟩] wx fun e w' => Below wx.heap.size wx w' ∧ ∃ a c, e = .returned (.slice a nC c)) := Lib.hid fun wx hb => (hC wx hb).mono fun e w' ⟨h1, v, h2, h3⟩ => by
    obtain ⟨a, c, h4, _⟩ := strs_one _ _ _ _ h3
    rw [hnC] at h4
    exact ⟨h1, a, c, by rw [h2, h4]⟩
  clear hT hC hnT hnC hs hn hz hl1 hl2
  by_cases h1 : 0 < nT
  · have g1 : (0 : Int) < (nT : Int) := by omega
    by_cases h2 : 0 < nC
    · have g2 : (0 : Int) < (nC : Int) := by omega
      rw [if_pos h1, if_pos h2] at hR
      simp only [ne_eq, show ¬ ((19 : Int) = 0) by decide, not_false_eq_true, if_true] at hR
      have HV := Lib.hid hR
      clear hR hco hle hfp 
      go_enter Tryd.func66, Tryd.ntmps66
      go_wp2_with fail
      refine (HT.out _ (one_grow _ _)).mono ?_; rintro e w1 ⟨hb, a1, c1, rfl⟩
      have HB1 := Lib.hid hb
      clear hb
      go_wp2_with fail
      refine (HC.out _ (one_below _ _ _ HB1.out)).mono ?_; rintro e w2 ⟨hb, a2, c2, rfl⟩
      have HB2 := Lib.hid (app_below HB1.out hb)
      clear hb
      obtain ⟨f0, g0⟩ := (res_cells _ _ _ _ HB2.out 0).1
      obtain ⟨f1, g1⟩ := (res_cells _ _ _ _ HB2.out 1).1
      have HBF := Lib.hid (one_below _ _ _ HB2.out)
      go_wp2
      exact bodyPost_ret (v := .tuple #[.agg #[.int .i64 0, .int .i64 0], .int .i64 19]) (by simp [results, Tryd.results66, go_sem, f0, f1]) rfl (bdSays HV.out rfl rfl rfl ((HBF.out.setCell (p := ⟨w.heap.size, 0, none⟩) (Nat.le_refl _) _).setCell (p := ⟨w.heap.size, 1, none⟩) (Nat.le_refl _) _))
    · have g2 : ¬ (0 : Int) < (nC : Int) := by omega
      rw [if_pos h1, if_neg h2] at hR
      cases hf : fchk l with
      | false =>
        rw [hf] at hR hco
        simp only [Bool.false_eq_true, if_false, ne_eq, show ¬ ((21 : Int) = 0) by decide, not_false_eq_true, if_true] at hR
        have HCO := Lib.hid hco
        have HV := Lib.hid hR
        clear hR hco hle hfp hf
        go_enter Tryd.func66, Tryd.ntmps66
        go_wp2_with fail
        refine (HT.out _ (one_grow _ _)).mono ?_; rintro e w1 ⟨hb, a1, c1, rfl⟩
        have HB1 := Lib.hid hb
        clear hb
        go_wp2_with fail
        refine (HC.out _ (one_below _ _ _ HB1.out)).mono ?_; rintro e w2 ⟨hb, a2, c2, rfl⟩
        have HB2 := Lib.hid (app_below HB1.out hb)
        clear hb
        go_wp2_with fail
        refine (HCO.out _ (one_below _ _ _ HB2.out)).mono ?_; rintro e w3 ⟨rfl, hb⟩
        have HB3 := Lib.hid (app_below HB2.out hb)
        clear hb
        obtain ⟨f0, g0⟩ := (res_cells _ _ _ _ HB3.out 0).1
        obtain ⟨f1, g1⟩ := (res_cells _ _ _ _ HB3.out 1).1
        have HBF := Lib.hid (one_below _ _ _ HB3.out)
        go_wp2
        exact bodyPost_ret (v := .tuple #[.agg #[.int .i64 0, .int .i64 0], .int .i64 21]) (by simp [results, Tryd.results66, go_sem, f0, f1]) rfl (bdSays HV.out rfl rfl rfl ((HBF.out.setCell (p := ⟨w.heap.size, 0, none⟩) (Nat.le_refl _) _).setCell (p := ⟨w.heap.size, 1, none⟩) (Nat.le_refl _) _))
      | true =>
        rw [hf] at hR hco
        have HCO := Lib.hid hco
        cases nb with
        | true =>
          simp only [if_true, ne_eq, not_true_eq_false, if_false] at hR
          have HV := Lib.hid hR
          clear hR hco hle hfp hf
          go_enter Tryd.func66, Tryd.ntmps66
          go_wp2_with fail
          refine (HT.out _ (one_grow _ _)).mono ?_; rintro e w1 ⟨hb, a1, c1, rfl⟩
          have HB1 := Lib.hid hb
          clear hb
          go_wp2_with fail
          refine (HC.out _ (one_below _ _ _ HB1.out)).mono ?_; rintro e w2 ⟨hb, a2, c2, rfl⟩
          have HB2 := Lib.hid (app_below HB1.out hb)
          clear hb
          go_wp2_with fail
          refine (HCO.out _ (one_below _ _ _ HB2.out)).mono ?_; rintro e w3 ⟨rfl, hb⟩
          have HB3 := Lib.hid (app_below HB2.out hb)
          clear hb
          obtain ⟨f0, g0⟩ := (res_cells _ _ _ _ HB3.out 0).1
          obtain ⟨f1, g1⟩ := (res_cells _ _ _ _ HB3.out 1).1
          have HBF := Lib.hid (one_below _ _ _ HB3.out)
          go_wp2
          exact bodyPost_ret (v := .tuple #[.agg #[.int .i64 0, .int .i64 0], .int .i64 0]) (by simp [results, Tryd.results66, go_sem, f0, f1]) rfl (bdSays HV.out rfl rfl rfl ((HBF.out.setCell (p := ⟨w.heap.size, 0, none⟩) (Nat.le_refl _) _).setCell (p := ⟨w.heap.size, 1, none⟩) (Nat.le_refl _) _))
        | false =>
          simp only [Bool.false_eq_true, if_true, ne_eq, not_true_eq_false, if_false] at hR
          have HV := Lib.hid hR
          clear hR hco hle hfp hf
          go_enter Tryd.func66, Tryd.ntmps66
          go_wp2_with fail
          refine (HT.out _ (one_grow _ _)).mono ?_; rintro e w1 ⟨hb, a1, c1, rfl⟩
          have HB1 := Lib.hid hb
          clear hb
          go_wp2_with fail
          refine (HC.out _ (one_below _ _ _ HB1.out)).mono ?_; rintro e w2 ⟨hb, a2, c2, rfl⟩
          have HB2 := Lib.hid (app_below HB1.out hb)
          clear hb
          go_wp2_with fail
          refine (HCO.out _ (one_below _ _ _ HB2.out)).mono ?_; rintro e w3 ⟨rfl, hb⟩
          have HB3 := Lib.hid (app_below HB2.out hb)
          clear hb
          obtain ⟨f0, g0⟩ := (res_cells _ _ _ _ HB3.out 0).1
          obtain ⟨f1, g1⟩ := (res_cells _ _ _ _ HB3.out 1).1
          have HBF := Lib.hid (one_below _ _ _ HB3.out)
          go_wp2
          exact bodyPost_ret (v := .tuple #[.agg #[.int .i64 2, .int .i64 0], .int .i64 0]) (by simp [results, Tryd.results66, go_sem, f0, f1]) rfl (bdSays HV.out rfl rfl rfl ((HBF.out.setCell (p := ⟨w.heap.size, 0, none⟩) (Nat.le_refl _) _).setCell (p := ⟨w.heap.size, 1, none⟩) (Nat.le_refl _) _))
  · have g1 : ¬ (0 : Int) < (nT : Int) := by omega
    by_cases h2 : 0 < nC
    · have g2 : (0 : Int) < (nC : Int) := by omega
      rw [if_neg h1, if_pos h2] at hR
      cases hf : flen l with
      | none =>
        rw [hf] at hR hle
        simp only [ne_eq, show ¬ ((20 : Int) = 0) by decide, not_false_eq_true, if_true] at hR
        have HLE : Hid (∀ wx, Below w.heap.size w wx → Calls Tryd.prog 81 #[.slice av n c] wx fun e w' => e = .returned (.tuple #[.int .i64 0, .int .i64 20]) ∧ Below wx.heap.size wx w') := Lib.hid fun wx hb => (hle wx hb).mono fun e w' ⟨h1, h2⟩ => ⟨h2, h1⟩
        have HV := Lib.hid hR
        clear hR hco hle hfp hf
        go_enter Tryd.func66, Tryd.ntmps66
        go_wp2_with fail
        refine (HT.out _ (one_grow _ _)).mono ?_; rintro e w1 ⟨hb, a1, c1, rfl⟩
        have HB1 := Lib.hid hb
        clear hb
        go_wp2_with fail
        refine (HC.out _ (one_below _ _ _ HB1.out)).mono ?_; rintro e w2 ⟨hb, a2, c2, rfl⟩
        have HB2 := Lib.hid (app_below HB1.out hb)
        clear hb
        go_wp2_with fail
        refine (HLE.out _ (one_below _ _ _ HB2.out)).mono ?_; rintro e w3 ⟨rfl, hb⟩
        have HB3 := Lib.hid (app_below HB2.out hb)
        clear hb
        obtain ⟨f0, g0⟩ := (res_cells _ _ _ _ HB3.out 0).1
        obtain ⟨f1, g1⟩ := (res_cells _ _ _ _ HB3.out 1).1
        have HBF := Lib.hid (one_below _ _ _ HB3.out)
        go_wp2
        exact bodyPost_ret (v := .tuple #[.agg #[.int .i64 0, .int .i64 0], .int .i64 20]) (by simp [results, Tryd.results66, go_sem, f0, f1]) rfl (bdSays HV.out rfl rfl rfl ((HBF.out.setCell (p := ⟨w.heap.size, 0, none⟩) (Nat.le_refl _) _).setCell (p := ⟨w.heap.size, 1, none⟩) (Nat.le_refl _) _))
      | some m =>
        rw [hf] at hR hle
        obtain ⟨hm0, hm1⟩ := hfp m hf
        have HLE : Hid (∀ wx, Below w.heap.size w wx → Calls Tryd.prog 81 #[.slice av n c] wx fun e w' => e = .returned (.tuple #[.int .i64 m, .int .i64 0]) ∧ Below wx.heap.size wx w') := Lib.hid fun wx hb => (hle wx hb).mono fun e w' ⟨h1, h2⟩ => ⟨h2, h1⟩
        cases nb with
        | true =>
          simp only [if_true, ne_eq, not_true_eq_false, if_false] at hR
          have HV := Lib.hid hR
          clear hR hco hle hfp hf
          go_enter Tryd.func66, Tryd.ntmps66
          go_wp2_with fail
          refine (HT.out _ (one_grow _ _)).mono ?_; rintro e w1 ⟨hb, a1, c1, rfl⟩
          have HB1 := Lib.hid hb
          clear hb
          go_wp2_with fail
          refine (HC.out _ (one_below _ _ _ HB1.out)).mono ?_; rintro e w2 ⟨hb, a2, c2, rfl⟩
          have HB2 := Lib.hid (app_below HB1.out hb)
          clear hb
          go_wp2_with fail
          refine (HLE.out _ (one_below _ _ _ HB2.out)).mono ?_; rintro e w3 ⟨rfl, hb⟩
          have HB3 := Lib.hid (app_below HB2.out hb)
          clear hb
          obtain ⟨f0, g0⟩ := (res_cells _ _ _ _ HB3.out 0).1
          obtain ⟨f1, g1⟩ := (res_cells _ _ _ _ HB3.out 1).1
          have HBF := Lib.hid (one_below _ _ _ HB3.out)
          go_wp2
          exact bodyPost_ret (v := .tuple #[.agg #[.int .i64 0, .int .i64 0], .int .i64 0]) (by simp [results, Tryd.results66, go_sem, f0, f1]) rfl (bdSays HV.out rfl rfl rfl ((HBF.out.setCell (p := ⟨w.heap.size, 0, none⟩) (Nat.le_refl _) _).setCell (p := ⟨w.heap.size, 1, none⟩) (Nat.le_refl _) _))
        | false =>
          simp only [Bool.false_eq_true, ne_eq, not_true_eq_false, if_false] at hR
          rw [if_pos hm0] at hR
          by_cases hb8 : 8192 < m
          · rw [if_pos hb8] at hR
            have HV := Lib.hid hR
            clear hR hco hle hfp hf
            go_enter Tryd.func66, Tryd.ntmps66
            go_wp2_with fail
            refine (HT.out _ (one_grow _ _)).mono ?_; rintro e w1 ⟨hb, a1, c1, rfl⟩
            have HB1 := Lib.hid hb
            clear hb
            go_wp2_with fail
            refine (HC.out _ (one_below _ _ _ HB1.out)).mono ?_; rintro e w2 ⟨hb, a2, c2, rfl⟩
            have HB2 := Lib.hid (app_below HB1.out hb)
            clear hb
            go_wp2_with fail
            refine (HLE.out _ (one_below _ _ _ HB2.out)).mono ?_; rintro e w3 ⟨rfl, hb⟩
            have HB3 := Lib.hid (app_below HB2.out hb)
            clear hb
            obtain ⟨f0, g0⟩ := (res_cells _ _ _ _ HB3.out 0).1
            obtain ⟨f1, g1⟩ := (res_cells _ _ _ _ HB3.out 1).1
            have HBF := Lib.hid (one_below _ _ _ HB3.out)
            go_wp2
            exact bodyPost_ret (v := .tuple #[.agg #[.int .i64 0, .int .i64 0], .int .i64 23]) (by simp [results, Tryd.results66, go_sem, f0, f1]) rfl (bdSays HV.out rfl rfl rfl ((HBF.out.setCell (p := ⟨w.heap.size, 0, none⟩) (Nat.le_refl _) _).setCell (p := ⟨w.heap.size, 1, none⟩) (Nat.le_refl _) _))
          · rw [if_neg hb8] at hR
            have HV := Lib.hid hR
            clear hR hco hle hfp hf
            go_enter Tryd.func66, Tryd.ntmps66
            go_wp2_with fail
            refine (HT.out _ (one_grow _ _)).mono ?_; rintro e w1 ⟨hb, a1, c1, rfl⟩
            have HB1 := Lib.hid hb
            clear hb
            go_wp2_with fail
            refine (HC.out _ (one_below _ _ _ HB1.out)).mono ?_; rintro e w2 ⟨hb, a2, c2, rfl⟩
            have HB2 := Lib.hid (app_below HB1.out hb)
            clear hb
            go_wp2_with fail
            refine (HLE.out _ (one_below _ _ _ HB2.out)).mono ?_; rintro e w3 ⟨rfl, hb⟩
            have HB3 := Lib.hid (app_below HB2.out hb)
            clear hb
            obtain ⟨f0, g0⟩ := (res_cells _ _ _ _ HB3.out 0).1
            obtain ⟨f1, g1⟩ := (res_cells _ _ _ _ HB3.out 1).1
            have HBF := Lib.hid (one_below _ _ _ HB3.out)
            go_wp2
            exact bodyPost_ret (v := .tuple #[.agg #[.int .i64 1, .int .i64 m], .int .i64 0]) (by simp [results, Tryd.results66, go_sem, f0, f1]) rfl (bdSays HV.out rfl rfl rfl ((HBF.out.setCell (p := ⟨w.heap.size, 0, none⟩) (Nat.le_refl _) _).setCell (p := ⟨w.heap.size, 1, none⟩) (Nat.le_refl _) _))
    · have g2 : ¬ (0 : Int) < (nC : Int) := by omega
      rw [if_neg h1, if_neg h2] at hR
      cases nb with
      | true =>
        simp only [if_true, ne_eq, not_true_eq_false, if_false] at hR
        have HV := Lib.hid hR
        clear hR hco hle hfp 
        go_enter Tryd.func66, Tryd.ntmps66
        go_wp2_with fail
        refine (HT.out _ (one_grow _ _)).mono ?_; rintro e w1 ⟨hb, a1, c1, rfl⟩
        have HB1 := Lib.hid hb
        clear hb
        go_wp2_with fail
        refine (HC.out _ (one_below _ _ _ HB1.out)).mono ?_; rintro e w2 ⟨hb, a2, c2, rfl⟩
        have HB2 := Lib.hid (app_below HB1.out hb)
        clear hb
        obtain ⟨f0, g0⟩ := (res_cells _ _ _ _ HB2.out 0).1
        obtain ⟨f1, g1⟩ := (res_cells _ _ _ _ HB2.out 1).1
        have HBF := Lib.hid (one_below _ _ _ HB2.out)
        go_wp2
        exact bodyPost_ret (v := .tuple #[.agg #[.int .i64 0, .int .i64 0], .int .i64 0]) (by simp [results, Tryd.results66, go_sem, f0, f1]) rfl (bdSays HV.out rfl rfl rfl ((HBF.out.setCell (p := ⟨w.heap.size, 0, none⟩) (Nat.le_refl _) _).setCell (p := ⟨w.heap.size, 1, none⟩) (Nat.le_refl _) _))
      | false =>
        simp only [Bool.false_eq_true, ne_eq, not_true_eq_false, if_false] at hR
        rw [if_neg (by decide)] at hR
        have HV := Lib.hid hR
        clear hR hco hle hfp 
        go_enter Tryd.func66, Tryd.ntmps66
        go_wp2_with fail
        refine (HT.out _ (one_grow _ _)).mono ?_; rintro e w1 ⟨hb, a1, c1, rfl⟩
        have HB1 := Lib.hid hb
        clear hb
        go_wp2_with fail
        refine (HC.out _ (one_below _ _ _ HB1.out)).mono ?_; rintro e w2 ⟨hb, a2, c2, rfl⟩
        have HB2 := Lib.hid (app_below HB1.out hb)
        clear hb
        obtain ⟨f0, g0⟩ := (res_cells _ _ _ _ HB2.out 0).1
        obtain ⟨f1, g1⟩ := (res_cells _ _ _ _ HB2.out 1).1
        have HBF := Lib.hid (one_below _ _ _ HB2.out)
        go_wp2
        exact bodyPost_ret (v := .tuple #[.agg #[.int .i64 opn, .int .i64 0], .int .i64 0]) (by simp [results, Tryd.results66, go_sem, f0, f1]) rfl (bdSays HV.out rfl rfl rfl ((HBF.out.setCell (p := ⟨w.heap.size, 0, none⟩) (Nat.le_refl _) _).setCell (p := ⟨w.heap.size, 1, none⟩) (Nat.le_refl _) _))

set_option maxHeartbeats 8000000 in
set_option maxRecDepth 100000 in
theorem qreq_any (l : AL) (M T : ByteArray) (av : Option Addr) (n c : Nat) (w : World) (hn : l.length = n) (hs : SrcA w av c l) (hz : asz l ≤ 1073741824) :
    Calls Tryd.prog 39 #[.agg #[.string M, .string T, .slice av n c]] w (BdSays (fbody l false 0) w) := by
  have hr := fun wx (hb : Below w.heap.size w wx) => qbody_any l false 0 av n c wx hn (hs.below (Nat.le_refl _) hb) hz
  generalize fbody l false 0 = R at hr ⊢
  obtain ⟨ka, kb, kc⟩ := R
  have HR : Hid (∀ wx, Below w.heap.size w wx → Calls Tryd.prog 66 #[.slice av n c, .bool false, .int .i64 0] wx fun e w' => e = .returned (.tuple #[.agg #[.int .i64 ka, .int .i64 kb], .int .i64 kc]) ∧ Below wx.heap.size wx w') := Lib.hid hr
  clear hr hs hn hz
  go_enter Tryd.func39, Tryd.ntmps39
  go_wp2_with fail
  refine (HR.out _ (two_grow _ _ _)).mono ?_; rintro e w1 ⟨rfl, hb⟩
  obtain ⟨_, f0, g0⟩ := two_cells _ _ _ _ _ _ hb 0
  obtain ⟨_, f1, g1⟩ := two_cells _ _ _ _ _ _ hb 1
  have HB := Lib.hid (two_below _ _ _ _ hb)
  clear hb
  go_wp2
  exact bodyPost_ret (v := .tuple #[.agg #[.int .i64 ka, .int .i64 kb], .int .i64 kc]) (by simp [results, Tryd.results39, go_sem, f0, f1]) rfl (bdSays rfl rfl rfl rfl ((HB.out.setCell (p := ⟨w.heap.size + 1, 0, none⟩) (by simp) _).setCell (p := ⟨w.heap.size + 1, 1, none⟩) (by simp) _))

set_option maxHeartbeats 8000000 in
set_option maxRecDepth 100000 in
theorem qresp_any (l : AL) (M T : ByteArray) (st : Int) (av : Option Addr) (n c : Nat) (w : World) (hn : l.length = n) (hs : SrcA w av c l) (hz : asz l ≤ 1073741824) :
    Calls Tryd.prog 40 #[.string M, .agg #[.int .i64 st, .string T, .slice av n c]] w (BdSays (fbody l (nob M st) 3) w) := by
  have hr := fun wx (hb : Below w.heap.size w wx) => qbody_any l (nob M st) 3 av n c wx hn (hs.below (Nat.le_refl _) hb) hz
  generalize fbody l (nob M st) 3 = R at hr ⊢
  obtain ⟨ka, kb, kc⟩ := R
  obtain ⟨q, hq⟩ : ∃ q, nob M st = q := ⟨_, rfl⟩
  rw [hq] at hr
  have HR : Hid (∀ wx, Below w.heap.size w wx → Calls Tryd.prog 66 #[.slice av n c, .bool q, .int .i64 3] wx fun e w' => e = .returned (.tuple #[.agg #[.int .i64 ka, .int .i64 kb], .int .i64 kc]) ∧ Below wx.heap.size wx w') := Lib.hid hr
  clear hr hs hn hz
  have hcase : (q = true ∧ (M.toList == [72, 69, 65, 68]) = true) ∨ (q = true ∧ (M.toList == [72, 69, 65, 68]) = false ∧ st = 204) ∨ (q = true ∧ (M.toList == [72, 69, 65, 68]) = false ∧ (st == 204) = false ∧ st = 304) ∨ (q = false ∧ (M.toList == [72, 69, 65, 68]) = false ∧ (st == 204) = false ∧ (st == 304) = false) := by
    by_cases hM : M.data.toList = [72, 69, 65, 68]
    · exact .inl ⟨by rw [← hq]; exact nob_yes (.inl hM), head_eq hM⟩
    · by_cases h2 : st = 204
      · exact .inr (.inl ⟨by rw [← hq]; exact nob_yes (.inr (.inl h2)), head_ne hM, h2⟩)
      · by_cases h3 : st = 304
        · exact .inr (.inr (.inl ⟨by rw [← hq]; exact nob_yes (.inr (.inr h3)), head_ne hM, by simp [h2], h3⟩))
        · exact .inr (.inr (.inr ⟨by rw [← hq]; exact nob_no hM h2 h3, head_ne hM, by simp [h2], by simp [h3]⟩))
  clear hq
  rcases hcase with ⟨rfl, y1⟩ | ⟨rfl, y1, rfl⟩ | ⟨rfl, y1, y2, rfl⟩ | ⟨rfl, y1, y2, y3⟩
  all_goals
    go_enter Tryd.func40, Tryd.ntmps40
    go_wp2_with fail
    refine (HR.out _ (two_grow _ _ _)).mono ?_; rintro e w1 ⟨rfl, hb⟩
    obtain ⟨_, f0, g0⟩ := two_cells _ _ _ _ _ _ hb 0
    obtain ⟨_, f1, g1⟩ := two_cells _ _ _ _ _ _ hb 1
    have HB := Lib.hid (two_below _ _ _ _ hb)
    clear hb
    go_wp2
    exact bodyPost_ret (v := .tuple #[.agg #[.int .i64 ka, .int .i64 kb], .int .i64 kc]) (by simp [results, Tryd.results40, go_sem, f0, f1]) rfl (bdSays rfl rfl rfl rfl ((HB.out.setCell (p := ⟨w.heap.size + 1, 0, none⟩) (by simp) _).setCell (p := ⟨w.heap.size + 1, 1, none⟩) (by simp) _))
end Go.Proofs.YtkadingpmebjbaaDoor
