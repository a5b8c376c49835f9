/- How a body ends: the program's Response. -/
import Derived.Test.YtkadingpmebjbaaDoorQD
set_option linter.unusedVariables false
namespace Go.Proofs.YtkadingpmebjbaaDoor
open Go.RowKit

theorem head_ne {M : ByteArray} (h : M.data.toList ≠ [72, 69, 65, 68]) : (M.toList == [72, 69, 65, 68]) = false := by
  rw [toList_data']; simpa using h
theorem head_eq {M : ByteArray} (h : M.data.toList = [72, 69, 65, 68]) : (M.toList == [72, 69, 65, 68]) = true := by
  rw [toList_data']; simpa using h
theorem nob_yes {M : ByteArray} {st : Int} (h : M.data.toList = [72, 69, 65, 68] ∨ st = 204 ∨ st = 304) : nob M st = true := by
  unfold nob; simpa using h
theorem nob_no {M : ByteArray} {st : Int} (h1 : M.data.toList ≠ [72, 69, 65, 68]) (h2 : st ≠ 204) (h3 : st ≠ 304) : nob M st = false := by
  unfold nob; simp [h1, h2, h3]
set_option maxHeartbeats 16000000 in
set_option maxRecDepth 100000 in
theorem gresp_any (l : AL) (M T : ByteArray) (st : Int) (av : Option Addr) (n c : Nat) (w : World) (hn : l.length = n) (hs : SrcA w av c l) (hz : asz l ≤ 1073741824) :
    Calls Tryd.prog 38 #[.string M, .agg #[.int .i64 st, .string T, .slice av n c]] w (BdSays (fbody l (nob M st) 3) w) := by
  have hr := fun wx (hb : Below w.heap.size w wx) => read_any l av n c wx hn (hs.below (Nat.le_refl _) hb) hz
  have hp := fread_pos l
  obtain ⟨R, hR⟩ : ∃ R, R = fbody l (nob M st) 3 := ⟨_, rfl⟩
  rw [← hR]
  unfold fbody at hR
  generalize fread l = r at hr hp hR
  obtain ⟨ch, len, code⟩ := r
  simp only at hp hR
  have HR : Hid (∀ wx, Below w.heap.size w wx → Calls Tryd.prog 64 #[.slice av n c] wx fun e w' => e = .returned (.tuple #[.bool ch, .int .i64 len, .int .i64 code]) ∧ Below wx.heap.size wx w') := Lib.hid hr
  obtain ⟨hp0, hp1⟩ := hp
  clear hr hs hn hz
  by_cases hc : code = 0
  case neg =>
    rw [if_pos hc] at hR
    have e1 : (code == 0) = false := by simp [hc]
    have e2 : (code != 0) = true := by simp [hc]
    have HV := Lib.hid hR
    clear hR hc
    go_enter Tryd.func38, Tryd.ntmps38
    go_wp2_with fail
    refine (HR.out _ (two_grow _ _ _)).mono ?_; rintro e w1 ⟨rfl, hb⟩
    obtain ⟨s0, f0, g0⟩ := two_cells _ _ _ _ _ _ hb 0
    obtain ⟨_, f1, g1⟩ := two_cells _ _ _ _ _ _ hb 1
    have HB := Lib.hid (two_below _ _ _ _ hb)
    clear hb
    go_wp2
    exact bodyPost_ret (v := .tuple #[.agg #[.int .i64 0, .int .i64 0], .int .i64 code]) (by simp [results, Tryd.results38, go_sem, f0, f1]) rfl (bdSays HV.out rfl rfl rfl ((HB.out.setCell (p := ⟨w.heap.size + 1, 0, none⟩) (by simp) _).setCell (p := ⟨w.heap.size + 1, 1, none⟩) (by simp) _))
  case pos =>
    subst hc
    rw [if_neg (by simp)] at hR
    by_cases hM : M.data.toList = [72, 69, 65, 68]
    · rw [nob_yes (.inl hM), if_pos rfl] at hR
      have hm := head_eq hM
      have HV := Lib.hid hR
      clear hR hM
      go_enter Tryd.func38, Tryd.ntmps38
      go_wp2_with fail
      refine (HR.out _ (two_grow _ _ _)).mono ?_; rintro e w1 ⟨rfl, hb⟩
      obtain ⟨s0, f0, g0⟩ := two_cells _ _ _ _ _ _ hb 0
      obtain ⟨_, f1, g1⟩ := two_cells _ _ _ _ _ _ hb 1
      have HB := Lib.hid (two_below _ _ _ _ hb)
      clear hb
      go_wp2
      exact bodyPost_ret (v := .tuple #[.agg #[.int .i64 0, .int .i64 0], .int .i64 0]) (by simp [results, Tryd.results38, go_sem, f0, f1]) rfl (bdSays HV.out rfl rfl rfl ((HB.out.setCell (p := ⟨w.heap.size + 1, 0, none⟩) (by simp) _).setCell (p := ⟨w.heap.size + 1, 1, none⟩) (by simp) _))
    have hm := head_ne hM
    by_cases h2 : st = 204
    · rw [nob_yes (.inr (.inl h2)), if_pos rfl] at hR
      subst h2
      have HV := Lib.hid hR
      clear hR hM
      go_enter Tryd.func38, Tryd.ntmps38
      go_wp2_with fail
      refine (HR.out _ (two_grow _ _ _)).mono ?_; rintro e w1 ⟨rfl, hb⟩
      obtain ⟨s0, f0, g0⟩ := two_cells _ _ _ _ _ _ hb 0
      obtain ⟨_, f1, g1⟩ := two_cells _ _ _ _ _ _ hb 1
      have HB := Lib.hid (two_below _ _ _ _ hb)
      clear hb
      go_wp2
      exact bodyPost_ret (v := .tuple #[.agg #[.int .i64 0, .int .i64 0], .int .i64 0]) (by simp [results, Tryd.results38, go_sem, f0, f1]) rfl (bdSays HV.out rfl rfl rfl ((HB.out.setCell (p := ⟨w.heap.size + 1, 0, none⟩) (by simp) _).setCell (p := ⟨w.heap.size + 1, 1, none⟩) (by simp) _))
    have y2 : (st == 204) = false := by simp [h2]
    by_cases h3 : st = 304
    · rw [nob_yes (.inr (.inr h3)), if_pos rfl] at hR
      subst h3
      have HV := Lib.hid hR
      clear hR hM
      go_enter Tryd.func38, Tryd.ntmps38
      go_wp2_with fail
      refine (HR.out _ (two_grow _ _ _)).mono ?_; rintro e w1 ⟨rfl, hb⟩
      obtain ⟨s0, f0, g0⟩ := two_cells _ _ _ _ _ _ hb 0
      obtain ⟨_, f1, g1⟩ := two_cells _ _ _ _ _ _ hb 1
      have HB := Lib.hid (two_below _ _ _ _ hb)
      clear hb
      go_wp2
      exact bodyPost_ret (v := .tuple #[.agg #[.int .i64 0, .int .i64 0], .int .i64 0]) (by simp [results, Tryd.results38, go_sem, f0, f1]) rfl (bdSays HV.out rfl rfl rfl ((HB.out.setCell (p := ⟨w.heap.size + 1, 0, none⟩) (by simp) _).setCell (p := ⟨w.heap.size + 1, 1, none⟩) (by simp) _))
    have y3 : (st == 304) = false := by simp [h3]
    rw [nob_no hM h2 h3, if_neg (by simp)] at hR
    clear hM h2 h3
    cases ch with
    | true =>
      rw [if_pos rfl] at hR
      have HV := Lib.hid hR
      clear hR 
      go_enter Tryd.func38, Tryd.ntmps38
      go_wp2_with fail
      refine (HR.out _ (two_grow _ _ _)).mono ?_; rintro e w1 ⟨rfl, hb⟩
      obtain ⟨s0, f0, g0⟩ := two_cells _ _ _ _ _ _ hb 0
      obtain ⟨_, f1, g1⟩ := two_cells _ _ _ _ _ _ hb 1
      have HB := Lib.hid (two_below _ _ _ _ hb)
      clear hb
      go_wp2
      exact bodyPost_ret (v := .tuple #[.agg #[.int .i64 2, .int .i64 0], .int .i64 0]) (by simp [results, Tryd.results38, go_sem, f0, f1]) rfl (bdSays HV.out rfl rfl rfl ((HB.out.setCell (p := ⟨w.heap.size + 1, 0, none⟩) (by simp) _).setCell (p := ⟨w.heap.size + 1, 1, none⟩) (by simp) _))
    | false =>
      rw [if_neg (by simp)] at hR
      by_cases hl : 0 ≤ len
      · rw [if_pos hl] at hR
        have hm2 := fun wx => measured_any len wx hl hp1
        rw [← hR] at hm2
        have HM := Lib.hid hm2
        clear hR hm2
        go_enter Tryd.func38, Tryd.ntmps38
        go_wp2_with fail
        refine (HR.out _ (two_grow _ _ _)).mono ?_; rintro e w1 ⟨rfl, hb⟩
        have s0 := (two_cells _ _ _ _ _ _ hb 0).1
        have HB1 := Lib.hid hb
        clear hb
        go_wp2_with fail
        refine (HM.out _).mono ?_; rintro e w2 ⟨rfl, hb⟩
        have hb2 := app_below HB1.out hb
        clear s0
        obtain ⟨_, f0, g0⟩ := two_cells _ _ _ _ _ _ hb2 0
        obtain ⟨_, f1, g1⟩ := two_cells _ _ _ _ _ _ hb2 1
        have HB := Lib.hid (two_below _ _ _ _ hb2)
        clear hb hb2
        obtain ⟨ka, kb, kc⟩ := R
        go_wp2
        exact bodyPost_ret (v := .tuple #[.agg #[.int .i64 ka, .int .i64 kb], .int .i64 kc]) (by simp [results, Tryd.results38, go_sem, f0, f1]) rfl (bdSays rfl rfl rfl rfl ((HB.out.setCell (p := ⟨w.heap.size + 1, 0, none⟩) (by simp) _).setCell (p := ⟨w.heap.size + 1, 1, none⟩) (by simp) _))
      · rw [if_neg hl] at hR
        have HV := Lib.hid hR
        clear hR 
        go_enter Tryd.func38, Tryd.ntmps38
        go_wp2_with fail
        refine (HR.out _ (two_grow _ _ _)).mono ?_; rintro e w1 ⟨rfl, hb⟩
        obtain ⟨s0, f0, g0⟩ := two_cells _ _ _ _ _ _ hb 0
        obtain ⟨_, f1, g1⟩ := two_cells _ _ _ _ _ _ hb 1
        have HB := Lib.hid (two_below _ _ _ _ hb)
        clear hb
        go_wp2
        exact bodyPost_ret (v := .tuple #[.agg #[.int .i64 3, .int .i64 0], .int .i64 0]) (by simp [results, Tryd.results38, go_sem, f0, f1]) rfl (bdSays HV.out rfl rfl rfl ((HB.out.setCell (p := ⟨w.heap.size + 1, 0, none⟩) (by simp) _).setCell (p := ⟨w.heap.size + 1, 1, none⟩) (by simp) _))
end Go.Proofs.YtkadingpmebjbaaDoor
