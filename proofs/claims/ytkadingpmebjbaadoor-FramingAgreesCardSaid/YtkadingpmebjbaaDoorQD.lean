/- How a body ends: the program's Request and Response. -/
import Derived.Test.YtkadingpmebjbaaDoorQC
set_option linter.unusedVariables false
namespace Go.Proofs.YtkadingpmebjbaaDoor
open Go.RowKit

theorem two_cells (w w2 : World) (cs ds : Array Value) (t u : TypeId) (hb : Below ((w.alloc (.cells cs t)).alloc (.cells ds u)).heap.size ((w.alloc (.cells cs t)).alloc (.cells ds u)) w2) (j : Nat) :
    w2.cell? ⟨w.heap.size, j, none⟩ = cs[j]? ∧ w2.cell? ⟨w.heap.size + 1, j, none⟩ = ds[j]? ∧ w2.frozen? ⟨w.heap.size + 1, j, none⟩ = false := by
  have e : (w.alloc (.cells cs t)).heap.size = w.heap.size + 1 := by simp
  have h1 := (res_cells (w.alloc (.cells cs t)) w2 ds u hb j).1
  rw [e] at h1
  refine ⟨?_, h1.1, h1.2⟩
  have h2 := (res_cells w (w.alloc (.cells cs t)) cs t (Below.refl _ _) j).2 (.cells ds u)
  exact (hb.cell (p := ⟨w.heap.size, j, none⟩) (by simp; omega)).trans h2.1
theorem two_below (w w2 : World) (o1 o2 : Obj) (hb : Below ((w.alloc o1).alloc o2).heap.size ((w.alloc o1).alloc o2) w2) : Below w.heap.size w w2 :=
  (((Below.refl w.heap.size w).alloc (Nat.le_refl _) o1).alloc (by simp) o2).trans (hb.mono (by simp; omega))
theorem two_grow (w : World) (o1 o2 : Obj) : Below w.heap.size w ((w.alloc o1).alloc o2) := ((Below.refl w.heap.size w).alloc (Nat.le_refl _) o1).alloc (by simp) o2
theorem fread_pos (l : AL) : -1 ≤ (fread l).len ∧ (fread l).len ≤ 9223372036854775807 := by
  unfold fread
  split
  · split <;> simp
  · split
    · cases hf : flen l with
      | none => simp
      | some n => have := flen_pos l n hf; simp only; omega
    · simp

set_option maxHeartbeats 8000000 in
set_option maxRecDepth 100000 in
theorem greq_any (l : AL) (M T : ByteArray) (av : Option Addr) (n c : Nat) (w : World) (hn : l.length = n) (hs : SrcA w av c l) (hz : asz l ≤ 1073741824) :
    Calls Tryd.prog 37 #[.agg #[.string M, .string T, .slice av n c]] w (BdSays (fbody l false 0) w) := by
  have hr := fun wx (hb : Below w.heap.size w wx) => read_any l av n c wx hn (hs.below (Nat.le_refl _) hb) hz
  have hp := fread_pos l
  obtain ⟨R, hR⟩ : ∃ R, R = fbody l false 0 := ⟨_, rfl⟩
  rw [← hR]
  unfold fbody at hR
  generalize fread l = r at hr hp hR
  obtain ⟨ch, len, code⟩ := r
  simp only at hp hR
  have HR : Hid (∀ wx, Below w.heap.size w wx → Calls Tryd.prog 64 #[.slice av n c] wx fun e w' => e = .returned (.tuple #[.bool ch, .int .i64 len, .int .i64 code]) ∧ Below wx.heap.size wx w') := Lib.hid hr
  obtain ⟨hp0, hp1⟩ := hp
  clear hr hs hn hz
  by_cases hc : code = 0
  case neg =>
    rw [if_pos hc] at hR
    have HV := Lib.hid hR
    have e1 : (code == 0) = false := by simp [hc]
    have e2 : (code != 0) = true := by simp [hc]
    clear hR hc
    go_enter Tryd.func37, Tryd.ntmps37
    go_wp2_with fail
    refine (HR.out _ (two_grow _ _ _)).mono ?_; rintro e w1 ⟨rfl, hb⟩
    obtain ⟨_, f0, g0⟩ := two_cells _ _ _ _ _ _ hb 0
    obtain ⟨_, f1, g1⟩ := two_cells _ _ _ _ _ _ hb 1
    have HB := Lib.hid (two_below _ _ _ _ hb)
    clear hb
    go_wp2
    exact bodyPost_ret (v := .tuple #[.agg #[.int .i64 0, .int .i64 0], .int .i64 code]) (by simp [results, Tryd.results37, go_sem, f0, f1]) rfl (bdSays HV.out rfl rfl rfl ((HB.out.setCell (p := ⟨w.heap.size + 1, 0, none⟩) (by simp) _).setCell (p := ⟨w.heap.size + 1, 1, none⟩) (by simp) _))
  case pos =>
    subst hc
    rw [if_neg (by simp), if_neg (by simp)] at hR
    cases ch with
    | true =>
      rw [if_pos rfl] at hR
      have HV := Lib.hid hR
      clear hR
      go_enter Tryd.func37, Tryd.ntmps37
      go_wp2_with fail
      refine (HR.out _ (two_grow _ _ _)).mono ?_; rintro e w1 ⟨rfl, hb⟩
      obtain ⟨_, f0, g0⟩ := two_cells _ _ _ _ _ _ hb 0
      obtain ⟨_, f1, g1⟩ := two_cells _ _ _ _ _ _ hb 1
      have HB := Lib.hid (two_below _ _ _ _ hb)
      clear hb
      go_wp2
      exact bodyPost_ret (v := .tuple #[.agg #[.int .i64 2, .int .i64 0], .int .i64 0]) (by simp [results, Tryd.results37, go_sem, f0, f1]) rfl (bdSays HV.out rfl rfl rfl ((HB.out.setCell (p := ⟨w.heap.size + 1, 0, none⟩) (by simp) _).setCell (p := ⟨w.heap.size + 1, 1, none⟩) (by simp) _))
    | false =>
      rw [if_neg (by simp)] at hR
      by_cases hl : 0 ≤ len
      · rw [if_pos hl] at hR
        have hm := fun wx => measured_any len wx hl hp1
        rw [← hR] at hm
        have HM := Lib.hid hm
        clear hR hm
        go_enter Tryd.func37, Tryd.ntmps37
        go_wp2_with fail
        refine (HR.out _ (two_grow _ _ _)).mono ?_; rintro e w1 ⟨rfl, hb⟩
        have HB1 := Lib.hid hb
        clear hb
        go_wp2_with fail
        refine (HM.out _).mono ?_; rintro e w2 ⟨rfl, hb⟩
        have hb2 := app_below HB1.out hb
        obtain ⟨_, f0, g0⟩ := two_cells _ _ _ _ _ _ hb2 0
        obtain ⟨_, f1, g1⟩ := two_cells _ _ _ _ _ _ hb2 1
        have HB := Lib.hid (two_below _ _ _ _ hb2)
        clear hb hb2
        obtain ⟨ka, kb, kc⟩ := R
        go_wp2
        exact bodyPost_ret (v := .tuple #[.agg #[.int .i64 ka, .int .i64 kb], .int .i64 kc]) (by simp [results, Tryd.results37, go_sem, f0, f1]) rfl (bdSays rfl rfl rfl rfl ((HB.out.setCell (p := ⟨w.heap.size + 1, 0, none⟩) (by simp) _).setCell (p := ⟨w.heap.size + 1, 1, none⟩) (by simp) _))
      · rw [if_neg hl] at hR
        have HV := Lib.hid hR
        clear hR
        go_enter Tryd.func37, Tryd.ntmps37
        go_wp2_with fail
        refine (HR.out _ (two_grow _ _ _)).mono ?_; rintro e w1 ⟨rfl, hb⟩
        obtain ⟨_, f0, g0⟩ := two_cells _ _ _ _ _ _ hb 0
        obtain ⟨_, f1, g1⟩ := two_cells _ _ _ _ _ _ hb 1
        have HB := Lib.hid (two_below _ _ _ _ hb)
        clear hb
        go_wp2
        exact bodyPost_ret (v := .tuple #[.agg #[.int .i64 0, .int .i64 0], .int .i64 0]) (by simp [results, Tryd.results37, go_sem, f0, f1]) rfl (bdSays HV.out rfl rfl rfl ((HB.out.setCell (p := ⟨w.heap.size + 1, 0, none⟩) (by simp) _).setCell (p := ⟨w.heap.size + 1, 1, none⟩) (by simp) _))
end Go.Proofs.YtkadingpmebjbaaDoor
