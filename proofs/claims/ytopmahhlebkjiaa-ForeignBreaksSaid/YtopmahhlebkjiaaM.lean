/- The document's answer whether a mark belongs to a drawing or formula. -/
import Derived.Test.YtopmahhlebkjiaaL
import Derived.Test.YtopmahhlebkjiaaG
namespace Go.Proofs.Ytopmahhlebkjiaa
open Go.RowKit
set_option linter.unusedSimpArgs false

theorem inl_glyph (s : ByteArray) : inl s [⟨#[109, 103, 108, 121, 112, 104]⟩, ⟨#[109, 97, 108, 105, 103, 110, 109, 97, 114, 107]⟩] = isGlyph s.toList := by
  simp only [inl, List.any_cons, List.any_nil, Bool.or_false, isGlyph, Lib.toList_data, beq_sym s.data.toList]

set_option maxHeartbeats 8000000 in
theorem refforeign_any (space : Int) (s : ByteArray) (w : World) (a : Option Addr) (n c : Nat) (l : List (ByteArray × ByteArray)) (h : Attrs w a n l) (kind : Int) (mn : ByteArray) (la : Value) (sf : Bool) (tx : ByteArray) :
    Calls Try.prog 12 #[.int .i64 space, .string s, .slice a n c, .agg #[.int .i64 kind, .string mn, la, .bool sf, .string tx]] w fun e w' => e = .returned (.bool (fg space s.toList (pt space s.toList l) kind mn.toList)) ∧ Below w.heap.size w w' := by
  have hp : ∀ wx, Below w.heap.size w wx → Calls Try.prog 10 #[.int .i64 space, .string s, .slice a n c] wx fun e w' => e = .returned (.int .i64 (pt space s.toList l)) ∧ Below wx.heap.size wx w' := fun wx hb => refpoint_any space s wx a n c l (h.below hb)
  have hg : ∀ (C : Array Value) (wx : World), C = (List.map Value.string [⟨#[109, 103, 108, 121, 112, 104]⟩, ⟨#[109, 97, 108, 105, 103, 110, 109, 97, 114, 107]⟩]).toArray → Calls Try.prog 22 #[.string mn, .slice (some ⟨wx.heap.size, 0, none⟩) 2 2] (wx.alloc (.cells C 9)) fun e w' => e = .returned (.bool (isGlyph mn.toList)) ∧ wx.alloc (.cells C 9) = w' := fun C wx hC => by
    rw [← inl_glyph]; exact in_any mn _ 2 2 _ _ (words_new wx C _ hC _) rfl (by omega)
  have hv := pt_vals space s.toList l
  have hout : space ≠ 1 → space ≠ 2 → pt space s.toList l = 0 := fun h1 h2 => by simp [pt, h1, h2]
  generalize hp0 : pt space s.toList l = p at hp hv hout
  generalize hr : fg space s.toList p kind mn.toList = r
  have h0 : HasM _ _ _ _ _ _ _ := HasM.new w kind mn la sf tx
  have hb0 : Below w.heap.size w (w.alloc (.cells #[.int .i64 kind, .string mn, la, .bool sf, .string tx] 24 (0, 0))) := (Below.refl _ _).alloc (Nat.le_refl _) _
  have H0 := Lib.hid h0
  have B0 := Lib.hid hb0
  have HP := Lib.hid hp
  clear h hp hp0 h0 hb0
  generalize hgl : isGlyph mn.toList = gl at hg
  have HG := Lib.hid hg
  clear hg
  by_cases e1 : space = 1
  · subst e1
    by_cases k6 : kind = 6
    · subst k6
      have HV : Hid (r = false) := Lib.hid (by rw [← hr]; simp [fg, isSvg, isAnn])
      clear hr hout hgl
      go_enter Try.func12, Try.ntmps12
      go_wp2_with fail
      refine (HP.out _ B0.out).mono ?_; rintro e w1 ⟨rfl, hb⟩
      have H1 := Lib.hid (H0.out.below hb)
      have HB := Lib.hid (B0.out.trans (hb.mono B0.out.size))
      clear hb
      obtain ⟨c0, c1, c2, c3, c4⟩ := H1.out.cells
      go_wp2_with (go_at_call 22; refine (HG.out _ _ rfl).mono ?_; rintro e w' ⟨rfl, rfl⟩)
      go_ret
      exact ⟨ret_bool HV.out.symm, by first | exact HB.out | exact HB.out.alloc HB.out.size _⟩
    by_cases k1 : kind = 1
    · subst k1
      clear k6
      rcases hv with rfl | rfl | rfl
      · have HV : Hid (r = true) := Lib.hid (by rw [← hr]; simp [fg, isSvg, isAnn])
        clear hr hout hgl
        go_enter Try.func12, Try.ntmps12
        go_wp2_with fail
        refine (HP.out _ B0.out).mono ?_; rintro e w1 ⟨rfl, hb⟩
        have H1 := Lib.hid (H0.out.below hb)
        have HB := Lib.hid (B0.out.trans (hb.mono B0.out.size))
        clear hb
        obtain ⟨c0, c1, c2, c3, c4⟩ := H1.out.cells
        go_wp2_with (go_at_call 22; refine (HG.out _ _ rfl).mono ?_; rintro e w' ⟨rfl, rfl⟩)
        go_ret
        exact ⟨ret_bool HV.out.symm, by first | exact HB.out | exact HB.out.alloc HB.out.size _⟩
      · have HV : Hid (r = false) := Lib.hid (by rw [← hr]; simp [fg, isSvg, isAnn])
        clear hr hout hgl
        go_enter Try.func12, Try.ntmps12
        go_wp2_with fail
        refine (HP.out _ B0.out).mono ?_; rintro e w1 ⟨rfl, hb⟩
        have H1 := Lib.hid (H0.out.below hb)
        have HB := Lib.hid (B0.out.trans (hb.mono B0.out.size))
        clear hb
        obtain ⟨c0, c1, c2, c3, c4⟩ := H1.out.cells
        go_wp2_with (go_at_call 22; refine (HG.out _ _ rfl).mono ?_; rintro e w' ⟨rfl, rfl⟩)
        go_ret
        exact ⟨ret_bool HV.out.symm, by first | exact HB.out | exact HB.out.alloc HB.out.size _⟩
      · have HV : Hid (r = false) := Lib.hid (by rw [← hr]; simp [fg, isSvg, isAnn])
        clear hr hout hgl
        go_enter Try.func12, Try.ntmps12
        go_wp2_with fail
        refine (HP.out _ B0.out).mono ?_; rintro e w1 ⟨rfl, hb⟩
        have H1 := Lib.hid (H0.out.below hb)
        have HB := Lib.hid (B0.out.trans (hb.mono B0.out.size))
        clear hb
        obtain ⟨c0, c1, c2, c3, c4⟩ := H1.out.cells
        go_wp2_with (go_at_call 22; refine (HG.out _ _ rfl).mono ?_; rintro e w' ⟨rfl, rfl⟩)
        go_ret
        exact ⟨ret_bool HV.out.symm, by first | exact HB.out | exact HB.out.alloc HB.out.size _⟩
    by_cases k2 : kind = 2
    · subst k2
      clear k6 k1
      rcases hv with rfl | rfl | rfl
      · have HV : Hid (r = true) := Lib.hid (by rw [← hr]; simp [fg, isSvg, isAnn])
        clear hr hout hgl
        go_enter Try.func12, Try.ntmps12
        go_wp2_with fail
        refine (HP.out _ B0.out).mono ?_; rintro e w1 ⟨rfl, hb⟩
        have H1 := Lib.hid (H0.out.below hb)
        have HB := Lib.hid (B0.out.trans (hb.mono B0.out.size))
        clear hb
        obtain ⟨c0, c1, c2, c3, c4⟩ := H1.out.cells
        go_wp2_with (go_at_call 22; refine (HG.out _ _ rfl).mono ?_; rintro e w' ⟨rfl, rfl⟩)
        go_ret
        exact ⟨ret_bool HV.out.symm, by first | exact HB.out | exact HB.out.alloc HB.out.size _⟩
      · cases gl
        · have HV : Hid (r = false) := Lib.hid (by rw [← hr]; simp [fg, isSvg, isAnn, hgl])
          clear hr hout hgl
          go_enter Try.func12, Try.ntmps12
          go_wp2_with fail
          refine (HP.out _ B0.out).mono ?_; rintro e w1 ⟨rfl, hb⟩
          have H1 := Lib.hid (H0.out.below hb)
          have HB := Lib.hid (B0.out.trans (hb.mono B0.out.size))
          clear hb
          obtain ⟨c0, c1, c2, c3, c4⟩ := H1.out.cells
          go_wp2_with (go_at_call 22; refine (HG.out _ _ rfl).mono ?_; rintro e w' ⟨rfl, rfl⟩)
          go_ret
          exact ⟨ret_bool HV.out.symm, by first | exact HB.out | exact HB.out.alloc HB.out.size _⟩
        · have HV : Hid (r = true) := Lib.hid (by rw [← hr]; simp [fg, isSvg, isAnn, hgl])
          clear hr hout hgl
          go_enter Try.func12, Try.ntmps12
          go_wp2_with fail
          refine (HP.out _ B0.out).mono ?_; rintro e w1 ⟨rfl, hb⟩
          have H1 := Lib.hid (H0.out.below hb)
          have HB := Lib.hid (B0.out.trans (hb.mono B0.out.size))
          clear hb
          obtain ⟨c0, c1, c2, c3, c4⟩ := H1.out.cells
          go_wp2_with (go_at_call 22; refine (HG.out _ _ rfl).mono ?_; rintro e w' ⟨rfl, rfl⟩)
          go_ret
          exact ⟨ret_bool HV.out.symm, by first | exact HB.out | exact HB.out.alloc HB.out.size _⟩
      · have HV : Hid (r = false) := Lib.hid (by rw [← hr]; simp [fg, isSvg, isAnn])
        clear hr hout hgl
        go_enter Try.func12, Try.ntmps12
        go_wp2_with fail
        refine (HP.out _ B0.out).mono ?_; rintro e w1 ⟨rfl, hb⟩
        have H1 := Lib.hid (H0.out.below hb)
        have HB := Lib.hid (B0.out.trans (hb.mono B0.out.size))
        clear hb
        obtain ⟨c0, c1, c2, c3, c4⟩ := H1.out.cells
        go_wp2_with (go_at_call 22; refine (HG.out _ _ rfl).mono ?_; rintro e w' ⟨rfl, rfl⟩)
        go_ret
        exact ⟨ret_bool HV.out.symm, by first | exact HB.out | exact HB.out.alloc HB.out.size _⟩
    have b6 : (kind == 6) = false := beq_eq_false_iff_ne.2 k6
    have b1 : (kind == 1) = false := beq_eq_false_iff_ne.2 k1
    have b2 : (kind == 2) = false := beq_eq_false_iff_ne.2 k2
    rcases hv with rfl | rfl | rfl
    · have HV : Hid (r = true) := Lib.hid (by rw [← hr]; simp [fg, isSvg, isAnn, k6, k1, k2])
      clear hr hout hgl
      go_enter Try.func12, Try.ntmps12
      go_wp2_with fail
      refine (HP.out _ B0.out).mono ?_; rintro e w1 ⟨rfl, hb⟩
      have H1 := Lib.hid (H0.out.below hb)
      have HB := Lib.hid (B0.out.trans (hb.mono B0.out.size))
      clear hb
      obtain ⟨c0, c1, c2, c3, c4⟩ := H1.out.cells
      go_wp2_with (go_at_call 22; refine (HG.out _ _ rfl).mono ?_; rintro e w' ⟨rfl, rfl⟩)
      go_ret
      exact ⟨ret_bool HV.out.symm, by first | exact HB.out | exact HB.out.alloc HB.out.size _⟩
    · have HV : Hid (r = true) := Lib.hid (by rw [← hr]; simp [fg, isSvg, isAnn, k6, k1, k2])
      clear hr hout hgl
      go_enter Try.func12, Try.ntmps12
      go_wp2_with fail
      refine (HP.out _ B0.out).mono ?_; rintro e w1 ⟨rfl, hb⟩
      have H1 := Lib.hid (H0.out.below hb)
      have HB := Lib.hid (B0.out.trans (hb.mono B0.out.size))
      clear hb
      obtain ⟨c0, c1, c2, c3, c4⟩ := H1.out.cells
      go_wp2_with (go_at_call 22; refine (HG.out _ _ rfl).mono ?_; rintro e w' ⟨rfl, rfl⟩)
      go_ret
      exact ⟨ret_bool HV.out.symm, by first | exact HB.out | exact HB.out.alloc HB.out.size _⟩
    · have HV : Hid (r = true) := Lib.hid (by rw [← hr]; simp [fg, isSvg, isAnn, k6, k1, k2])
      clear hr hout hgl
      go_enter Try.func12, Try.ntmps12
      go_wp2_with fail
      refine (HP.out _ B0.out).mono ?_; rintro e w1 ⟨rfl, hb⟩
      have H1 := Lib.hid (H0.out.below hb)
      have HB := Lib.hid (B0.out.trans (hb.mono B0.out.size))
      clear hb
      obtain ⟨c0, c1, c2, c3, c4⟩ := H1.out.cells
      go_wp2_with (go_at_call 22; refine (HG.out _ _ rfl).mono ?_; rintro e w' ⟨rfl, rfl⟩)
      go_ret
      exact ⟨ret_bool HV.out.symm, by first | exact HB.out | exact HB.out.alloc HB.out.size _⟩
  by_cases e2 : space = 2
  · subst e2
    clear e1
    by_cases k6 : kind = 6
    · subst k6
      have HV : Hid (r = false) := Lib.hid (by rw [← hr]; simp [fg, isSvg, isAnn])
      clear hr hout hgl
      go_enter Try.func12, Try.ntmps12
      go_wp2_with fail
      refine (HP.out _ B0.out).mono ?_; rintro e w1 ⟨rfl, hb⟩
      have H1 := Lib.hid (H0.out.below hb)
      have HB := Lib.hid (B0.out.trans (hb.mono B0.out.size))
      clear hb
      obtain ⟨c0, c1, c2, c3, c4⟩ := H1.out.cells
      go_wp2_with (go_at_call 22; refine (HG.out _ _ rfl).mono ?_; rintro e w' ⟨rfl, rfl⟩)
      go_ret
      exact ⟨ret_bool HV.out.symm, by first | exact HB.out | exact HB.out.alloc HB.out.size _⟩
    by_cases k1 : kind = 1
    · subst k1
      clear k6
      rcases hv with rfl | rfl | rfl
      · cases ha : (s.toList == [97, 110, 110, 111, 116, 97, 116, 105, 111, 110, 45, 120, 109, 108])
        · have HV : Hid (r = true) := Lib.hid (by rw [← hr]; simp [fg, isSvg, isAnn, ha])
          clear hr hout hgl
          go_enter Try.func12, Try.ntmps12
          go_wp2_with fail
          refine (HP.out _ B0.out).mono ?_; rintro e w1 ⟨rfl, hb⟩
          have H1 := Lib.hid (H0.out.below hb)
          have HB := Lib.hid (B0.out.trans (hb.mono B0.out.size))
          clear hb
          obtain ⟨c0, c1, c2, c3, c4⟩ := H1.out.cells
          go_wp2_with (go_at_call 22; refine (HG.out _ _ rfl).mono ?_; rintro e w' ⟨rfl, rfl⟩)
          go_ret
          exact ⟨ret_bool HV.out.symm, by first | exact HB.out | exact HB.out.alloc HB.out.size _⟩
        · have HV : Hid (r = true) := Lib.hid (by rw [← hr]; simp [fg, isSvg, isAnn, ha])
          clear hr hout hgl
          go_enter Try.func12, Try.ntmps12
          go_wp2_with fail
          refine (HP.out _ B0.out).mono ?_; rintro e w1 ⟨rfl, hb⟩
          have H1 := Lib.hid (H0.out.below hb)
          have HB := Lib.hid (B0.out.trans (hb.mono B0.out.size))
          clear hb
          obtain ⟨c0, c1, c2, c3, c4⟩ := H1.out.cells
          go_wp2_with (go_at_call 22; refine (HG.out _ _ rfl).mono ?_; rintro e w' ⟨rfl, rfl⟩)
          go_ret
          exact ⟨ret_bool HV.out.symm, by first | exact HB.out | exact HB.out.alloc HB.out.size _⟩
      · have HV : Hid (r = false) := Lib.hid (by rw [← hr]; simp [fg, isSvg, isAnn])
        clear hr hout hgl
        go_enter Try.func12, Try.ntmps12
        go_wp2_with fail
        refine (HP.out _ B0.out).mono ?_; rintro e w1 ⟨rfl, hb⟩
        have H1 := Lib.hid (H0.out.below hb)
        have HB := Lib.hid (B0.out.trans (hb.mono B0.out.size))
        clear hb
        obtain ⟨c0, c1, c2, c3, c4⟩ := H1.out.cells
        go_wp2_with (go_at_call 22; refine (HG.out _ _ rfl).mono ?_; rintro e w' ⟨rfl, rfl⟩)
        go_ret
        exact ⟨ret_bool HV.out.symm, by first | exact HB.out | exact HB.out.alloc HB.out.size _⟩
      · cases ha : (s.toList == [97, 110, 110, 111, 116, 97, 116, 105, 111, 110, 45, 120, 109, 108])
        · have HV : Hid (r = false) := Lib.hid (by rw [← hr]; simp [fg, isSvg, isAnn, ha])
          clear hr hout hgl
          go_enter Try.func12, Try.ntmps12
          go_wp2_with fail
          refine (HP.out _ B0.out).mono ?_; rintro e w1 ⟨rfl, hb⟩
          have H1 := Lib.hid (H0.out.below hb)
          have HB := Lib.hid (B0.out.trans (hb.mono B0.out.size))
          clear hb
          obtain ⟨c0, c1, c2, c3, c4⟩ := H1.out.cells
          go_wp2_with (go_at_call 22; refine (HG.out _ _ rfl).mono ?_; rintro e w' ⟨rfl, rfl⟩)
          go_ret
          exact ⟨ret_bool HV.out.symm, by first | exact HB.out | exact HB.out.alloc HB.out.size _⟩
        · have HV : Hid (r = false) := Lib.hid (by rw [← hr]; simp [fg, isSvg, isAnn, ha])
          clear hr hout hgl
          go_enter Try.func12, Try.ntmps12
          go_wp2_with fail
          refine (HP.out _ B0.out).mono ?_; rintro e w1 ⟨rfl, hb⟩
          have H1 := Lib.hid (H0.out.below hb)
          have HB := Lib.hid (B0.out.trans (hb.mono B0.out.size))
          clear hb
          obtain ⟨c0, c1, c2, c3, c4⟩ := H1.out.cells
          go_wp2_with (go_at_call 22; refine (HG.out _ _ rfl).mono ?_; rintro e w' ⟨rfl, rfl⟩)
          go_ret
          exact ⟨ret_bool HV.out.symm, by first | exact HB.out | exact HB.out.alloc HB.out.size _⟩
    by_cases k2 : kind = 2
    · subst k2
      clear k6 k1
      rcases hv with rfl | rfl | rfl
      · cases ha : (s.toList == [97, 110, 110, 111, 116, 97, 116, 105, 111, 110, 45, 120, 109, 108])
        · have HV : Hid (r = true) := Lib.hid (by rw [← hr]; simp [fg, isSvg, isAnn, ha])
          clear hr hout hgl
          go_enter Try.func12, Try.ntmps12
          go_wp2_with fail
          refine (HP.out _ B0.out).mono ?_; rintro e w1 ⟨rfl, hb⟩
          have H1 := Lib.hid (H0.out.below hb)
          have HB := Lib.hid (B0.out.trans (hb.mono B0.out.size))
          clear hb
          obtain ⟨c0, c1, c2, c3, c4⟩ := H1.out.cells
          go_wp2_with (go_at_call 22; refine (HG.out _ _ rfl).mono ?_; rintro e w' ⟨rfl, rfl⟩)
          go_ret
          exact ⟨ret_bool HV.out.symm, by first | exact HB.out | exact HB.out.alloc HB.out.size _⟩
        · cases hs : (mn.toList == [115, 118, 103])
          · have HV : Hid (r = true) := Lib.hid (by rw [← hr]; simp [fg, isSvg, isAnn, ha, hs])
            clear hr hout hgl
            go_enter Try.func12, Try.ntmps12
            go_wp2_with fail
            refine (HP.out _ B0.out).mono ?_; rintro e w1 ⟨rfl, hb⟩
            have H1 := Lib.hid (H0.out.below hb)
            have HB := Lib.hid (B0.out.trans (hb.mono B0.out.size))
            clear hb
            obtain ⟨c0, c1, c2, c3, c4⟩ := H1.out.cells
            go_wp2_with (go_at_call 22; refine (HG.out _ _ rfl).mono ?_; rintro e w' ⟨rfl, rfl⟩)
            go_ret
            exact ⟨ret_bool HV.out.symm, by first | exact HB.out | exact HB.out.alloc HB.out.size _⟩
          · have HV : Hid (r = false) := Lib.hid (by rw [← hr]; simp [fg, isSvg, isAnn, ha, hs])
            clear hr hout hgl
            go_enter Try.func12, Try.ntmps12
            go_wp2_with fail
            refine (HP.out _ B0.out).mono ?_; rintro e w1 ⟨rfl, hb⟩
            have H1 := Lib.hid (H0.out.below hb)
            have HB := Lib.hid (B0.out.trans (hb.mono B0.out.size))
            clear hb
            obtain ⟨c0, c1, c2, c3, c4⟩ := H1.out.cells
            go_wp2_with (go_at_call 22; refine (HG.out _ _ rfl).mono ?_; rintro e w' ⟨rfl, rfl⟩)
            go_ret
            exact ⟨ret_bool HV.out.symm, by first | exact HB.out | exact HB.out.alloc HB.out.size _⟩
      · cases gl
        · have HV : Hid (r = false) := Lib.hid (by rw [← hr]; simp [fg, isSvg, isAnn, hgl])
          clear hr hout hgl
          go_enter Try.func12, Try.ntmps12
          go_wp2_with fail
          refine (HP.out _ B0.out).mono ?_; rintro e w1 ⟨rfl, hb⟩
          have H1 := Lib.hid (H0.out.below hb)
          have HB := Lib.hid (B0.out.trans (hb.mono B0.out.size))
          clear hb
          obtain ⟨c0, c1, c2, c3, c4⟩ := H1.out.cells
          go_wp2_with (go_at_call 22; refine (HG.out _ _ rfl).mono ?_; rintro e w' ⟨rfl, rfl⟩)
          go_ret
          exact ⟨ret_bool HV.out.symm, by first | exact HB.out | exact HB.out.alloc HB.out.size _⟩
        · cases ha : (s.toList == [97, 110, 110, 111, 116, 97, 116, 105, 111, 110, 45, 120, 109, 108])
          · have HV : Hid (r = true) := Lib.hid (by rw [← hr]; simp [fg, isSvg, isAnn, hgl, ha])
            clear hr hout hgl
            go_enter Try.func12, Try.ntmps12
            go_wp2_with fail
            refine (HP.out _ B0.out).mono ?_; rintro e w1 ⟨rfl, hb⟩
            have H1 := Lib.hid (H0.out.below hb)
            have HB := Lib.hid (B0.out.trans (hb.mono B0.out.size))
            clear hb
            obtain ⟨c0, c1, c2, c3, c4⟩ := H1.out.cells
            go_wp2_with (go_at_call 22; refine (HG.out _ _ rfl).mono ?_; rintro e w' ⟨rfl, rfl⟩)
            go_ret
            exact ⟨ret_bool HV.out.symm, by first | exact HB.out | exact HB.out.alloc HB.out.size _⟩
          · cases hs : (mn.toList == [115, 118, 103])
            · have HV : Hid (r = true) := Lib.hid (by rw [← hr]; simp [fg, isSvg, isAnn, hgl, ha, hs])
              clear hr hout hgl
              go_enter Try.func12, Try.ntmps12
              go_wp2_with fail
              refine (HP.out _ B0.out).mono ?_; rintro e w1 ⟨rfl, hb⟩
              have H1 := Lib.hid (H0.out.below hb)
              have HB := Lib.hid (B0.out.trans (hb.mono B0.out.size))
              clear hb
              obtain ⟨c0, c1, c2, c3, c4⟩ := H1.out.cells
              have hsz : w.heap.size < w1.heap.size := (Array.getElem?_eq_some_iff.1 H1.out.blk).1
              go_wp2_with (go_at_call 22; refine (HG.out _ _ rfl).mono ?_; rintro e w' ⟨rfl, rfl⟩)
              go_ret
              exact ⟨ret_bool HV.out.symm, by first | exact HB.out | exact HB.out.alloc HB.out.size _⟩
            · have HV : Hid (r = false) := Lib.hid (by rw [← hr]; simp [fg, isSvg, isAnn, hgl, ha, hs])
              clear hr hout hgl
              go_enter Try.func12, Try.ntmps12
              go_wp2_with fail
              refine (HP.out _ B0.out).mono ?_; rintro e w1 ⟨rfl, hb⟩
              have H1 := Lib.hid (H0.out.below hb)
              have HB := Lib.hid (B0.out.trans (hb.mono B0.out.size))
              clear hb
              obtain ⟨c0, c1, c2, c3, c4⟩ := H1.out.cells
              have hsz : w.heap.size < w1.heap.size := (Array.getElem?_eq_some_iff.1 H1.out.blk).1
              go_wp2_with (go_at_call 22; refine (HG.out _ _ rfl).mono ?_; rintro e w' ⟨rfl, rfl⟩)
              go_ret
              exact ⟨ret_bool HV.out.symm, by first | exact HB.out | exact HB.out.alloc HB.out.size _⟩
      · cases ha : (s.toList == [97, 110, 110, 111, 116, 97, 116, 105, 111, 110, 45, 120, 109, 108])
        · have HV : Hid (r = false) := Lib.hid (by rw [← hr]; simp [fg, isSvg, isAnn, ha])
          clear hr hout hgl
          go_enter Try.func12, Try.ntmps12
          go_wp2_with fail
          refine (HP.out _ B0.out).mono ?_; rintro e w1 ⟨rfl, hb⟩
          have H1 := Lib.hid (H0.out.below hb)
          have HB := Lib.hid (B0.out.trans (hb.mono B0.out.size))
          clear hb
          obtain ⟨c0, c1, c2, c3, c4⟩ := H1.out.cells
          go_wp2_with (go_at_call 22; refine (HG.out _ _ rfl).mono ?_; rintro e w' ⟨rfl, rfl⟩)
          go_ret
          exact ⟨ret_bool HV.out.symm, by first | exact HB.out | exact HB.out.alloc HB.out.size _⟩
        · cases hs : (mn.toList == [115, 118, 103])
          · have HV : Hid (r = false) := Lib.hid (by rw [← hr]; simp [fg, isSvg, isAnn, ha, hs])
            clear hr hout hgl
            go_enter Try.func12, Try.ntmps12
            go_wp2_with fail
            refine (HP.out _ B0.out).mono ?_; rintro e w1 ⟨rfl, hb⟩
            have H1 := Lib.hid (H0.out.below hb)
            have HB := Lib.hid (B0.out.trans (hb.mono B0.out.size))
            clear hb
            obtain ⟨c0, c1, c2, c3, c4⟩ := H1.out.cells
            go_wp2_with (go_at_call 22; refine (HG.out _ _ rfl).mono ?_; rintro e w' ⟨rfl, rfl⟩)
            go_ret
            exact ⟨ret_bool HV.out.symm, by first | exact HB.out | exact HB.out.alloc HB.out.size _⟩
          · have HV : Hid (r = false) := Lib.hid (by rw [← hr]; simp [fg, isSvg, isAnn, ha, hs])
            clear hr hout hgl
            go_enter Try.func12, Try.ntmps12
            go_wp2_with fail
            refine (HP.out _ B0.out).mono ?_; rintro e w1 ⟨rfl, hb⟩
            have H1 := Lib.hid (H0.out.below hb)
            have HB := Lib.hid (B0.out.trans (hb.mono B0.out.size))
            clear hb
            obtain ⟨c0, c1, c2, c3, c4⟩ := H1.out.cells
            go_wp2_with (go_at_call 22; refine (HG.out _ _ rfl).mono ?_; rintro e w' ⟨rfl, rfl⟩)
            go_ret
            exact ⟨ret_bool HV.out.symm, by first | exact HB.out | exact HB.out.alloc HB.out.size _⟩
    have b6 : (kind == 6) = false := beq_eq_false_iff_ne.2 k6
    have b1 : (kind == 1) = false := beq_eq_false_iff_ne.2 k1
    have b2 : (kind == 2) = false := beq_eq_false_iff_ne.2 k2
    rcases hv with rfl | rfl | rfl
    · cases ha : (s.toList == [97, 110, 110, 111, 116, 97, 116, 105, 111, 110, 45, 120, 109, 108])
      · have HV : Hid (r = true) := Lib.hid (by rw [← hr]; simp [fg, isSvg, isAnn, k6, k1, k2, ha])
        clear hr hout hgl
        go_enter Try.func12, Try.ntmps12
        go_wp2_with fail
        refine (HP.out _ B0.out).mono ?_; rintro e w1 ⟨rfl, hb⟩
        have H1 := Lib.hid (H0.out.below hb)
        have HB := Lib.hid (B0.out.trans (hb.mono B0.out.size))
        clear hb
        obtain ⟨c0, c1, c2, c3, c4⟩ := H1.out.cells
        go_wp2_with (go_at_call 22; refine (HG.out _ _ rfl).mono ?_; rintro e w' ⟨rfl, rfl⟩)
        go_ret
        exact ⟨ret_bool HV.out.symm, by first | exact HB.out | exact HB.out.alloc HB.out.size _⟩
      · have HV : Hid (r = true) := Lib.hid (by rw [← hr]; simp [fg, isSvg, isAnn, k6, k1, k2, ha])
        clear hr hout hgl
        go_enter Try.func12, Try.ntmps12
        go_wp2_with fail
        refine (HP.out _ B0.out).mono ?_; rintro e w1 ⟨rfl, hb⟩
        have H1 := Lib.hid (H0.out.below hb)
        have HB := Lib.hid (B0.out.trans (hb.mono B0.out.size))
        clear hb
        obtain ⟨c0, c1, c2, c3, c4⟩ := H1.out.cells
        go_wp2_with (go_at_call 22; refine (HG.out _ _ rfl).mono ?_; rintro e w' ⟨rfl, rfl⟩)
        go_ret
        exact ⟨ret_bool HV.out.symm, by first | exact HB.out | exact HB.out.alloc HB.out.size _⟩
    · cases ha : (s.toList == [97, 110, 110, 111, 116, 97, 116, 105, 111, 110, 45, 120, 109, 108])
      · have HV : Hid (r = true) := Lib.hid (by rw [← hr]; simp [fg, isSvg, isAnn, k6, k1, k2, ha])
        clear hr hout hgl
        go_enter Try.func12, Try.ntmps12
        go_wp2_with fail
        refine (HP.out _ B0.out).mono ?_; rintro e w1 ⟨rfl, hb⟩
        have H1 := Lib.hid (H0.out.below hb)
        have HB := Lib.hid (B0.out.trans (hb.mono B0.out.size))
        clear hb
        obtain ⟨c0, c1, c2, c3, c4⟩ := H1.out.cells
        go_wp2_with (go_at_call 22; refine (HG.out _ _ rfl).mono ?_; rintro e w' ⟨rfl, rfl⟩)
        go_ret
        exact ⟨ret_bool HV.out.symm, by first | exact HB.out | exact HB.out.alloc HB.out.size _⟩
      · have HV : Hid (r = true) := Lib.hid (by rw [← hr]; simp [fg, isSvg, isAnn, k6, k1, k2, ha])
        clear hr hout hgl
        go_enter Try.func12, Try.ntmps12
        go_wp2_with fail
        refine (HP.out _ B0.out).mono ?_; rintro e w1 ⟨rfl, hb⟩
        have H1 := Lib.hid (H0.out.below hb)
        have HB := Lib.hid (B0.out.trans (hb.mono B0.out.size))
        clear hb
        obtain ⟨c0, c1, c2, c3, c4⟩ := H1.out.cells
        go_wp2_with (go_at_call 22; refine (HG.out _ _ rfl).mono ?_; rintro e w' ⟨rfl, rfl⟩)
        go_ret
        exact ⟨ret_bool HV.out.symm, by first | exact HB.out | exact HB.out.alloc HB.out.size _⟩
    · cases ha : (s.toList == [97, 110, 110, 111, 116, 97, 116, 105, 111, 110, 45, 120, 109, 108])
      · have HV : Hid (r = true) := Lib.hid (by rw [← hr]; simp [fg, isSvg, isAnn, k6, k1, k2, ha])
        clear hr hout hgl
        go_enter Try.func12, Try.ntmps12
        go_wp2_with fail
        refine (HP.out _ B0.out).mono ?_; rintro e w1 ⟨rfl, hb⟩
        have H1 := Lib.hid (H0.out.below hb)
        have HB := Lib.hid (B0.out.trans (hb.mono B0.out.size))
        clear hb
        obtain ⟨c0, c1, c2, c3, c4⟩ := H1.out.cells
        go_wp2_with (go_at_call 22; refine (HG.out _ _ rfl).mono ?_; rintro e w' ⟨rfl, rfl⟩)
        go_ret
        exact ⟨ret_bool HV.out.symm, by first | exact HB.out | exact HB.out.alloc HB.out.size _⟩
      · have HV : Hid (r = true) := Lib.hid (by rw [← hr]; simp [fg, isSvg, isAnn, k6, k1, k2, ha])
        clear hr hout hgl
        go_enter Try.func12, Try.ntmps12
        go_wp2_with fail
        refine (HP.out _ B0.out).mono ?_; rintro e w1 ⟨rfl, hb⟩
        have H1 := Lib.hid (H0.out.below hb)
        have HB := Lib.hid (B0.out.trans (hb.mono B0.out.size))
        clear hb
        obtain ⟨c0, c1, c2, c3, c4⟩ := H1.out.cells
        go_wp2_with (go_at_call 22; refine (HG.out _ _ rfl).mono ?_; rintro e w' ⟨rfl, rfl⟩)
        go_ret
        exact ⟨ret_bool HV.out.symm, by first | exact HB.out | exact HB.out.alloc HB.out.size _⟩
  have b1 : (space == 1) = false := beq_eq_false_iff_ne.2 e1
  have b2 : (space == 2) = false := beq_eq_false_iff_ne.2 e2
  have d1 : (space != 1) = true := by simp [bne, b1]
  have d2 : (space != 2) = true := by simp [bne, b2]
  obtain rfl := hout e1 e2
  have HV : Hid (r = false) := Lib.hid (by rw [← hr]; simp [fg, isSvg, isAnn, e1, e2])
  clear hr hout hgl
  go_enter Try.func12, Try.ntmps12
  go_wp2_with fail
  refine (HP.out _ B0.out).mono ?_; rintro e w1 ⟨rfl, hb⟩
  have H1 := Lib.hid (H0.out.below hb)
  have HB := Lib.hid (B0.out.trans (hb.mono B0.out.size))
  clear hb
  obtain ⟨c0, c1, c2, c3, c4⟩ := H1.out.cells
  go_wp2_with (go_at_call 22; refine (HG.out _ _ rfl).mono ?_; rintro e w' ⟨rfl, rfl⟩)
  all_goals
    go_ret
    exact ⟨ret_bool HV.out.symm, by first | exact HB.out | exact HB.out.alloc HB.out.size _⟩
end Go.Proofs.Ytopmahhlebkjiaa
