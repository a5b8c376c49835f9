/- ForeignPage, the walk of its law. -/
import Derived.Test.YtopmahhlebkjiaaF
namespace Go.Proofs.Ytopmahhlebkjiaa
open Go.RowKit
set_option linter.unusedSimpArgs false

/-- a mark that lies in a block -/
structure HasM (w : World) (B : Nat) (kind : Int) (mn : ByteArray) (la : Value) (sf : Bool) (tx : ByteArray) : Prop where
  blk : w.heap[B]? = some (.cells #[.int .i64 kind, .string mn, la, .bool sf, .string tx] 24 (0, 0))
theorem HasM.below {w w' : World} {B : Nat} {kind : Int} {mn : ByteArray} {la : Value} {sf : Bool} {tx : ByteArray} (h : HasM w B kind mn la sf tx) (hb : Below w.heap.size w w') : HasM w' B kind mn la sf tx := ⟨(hb.block B (Array.getElem?_eq_some_iff.1 h.blk).1).trans h.blk⟩
theorem HasM.cells {w : World} {B : Nat} {kind : Int} {mn : ByteArray} {la : Value} {sf : Bool} {tx : ByteArray} (h : HasM w B kind mn la sf tx) :
    w.cell? ⟨B, 0, none⟩ = some (.int .i64 kind) ∧ w.cell? ⟨B, 1, none⟩ = some (.string mn) ∧ w.cell? ⟨B, 2, none⟩ = some la ∧ w.cell? ⟨B, 3, none⟩ = some (.bool sf) ∧ w.cell? ⟨B, 4, none⟩ = some (.string tx) := by
  have := h.blk
  refine ⟨?_, ?_, ?_, ?_, ?_⟩ <;> (unfold World.cell?; simp only [this]; rfl)
theorem HasM.new (w : World) (kind : Int) (mn : ByteArray) (la : Value) (sf : Bool) (tx : ByteArray) : HasM (w.alloc (.cells #[.int .i64 kind, .string mn, la, .bool sf, .string tx] 24 (0, 0))) w.heap.size kind mn la sf tx :=
  ⟨by show (w.heap.push _)[w.heap.size]? = _; simp⟩

set_option maxHeartbeats 8000000 in
theorem page_walk (space : Int) (s : ByteArray) (w : World) (a : Option Addr) (n c : Nat) (l : List (ByteArray × ByteArray)) (h : Attrs w a n l) (kind : Int) (mn : ByteArray) (sf : Bool) (tx : ByteArray) :
    Calls Try.prog 7 #[.int .i64 space, .string s, .agg #[.int .i64 kind, .string mn, .slice a n c, .bool sf, .string tx]] w fun e w' => e = .returned (.bool true) ∧ Below w.heap.size w w' := by
  have hp : ∀ wx, Below w.heap.size w wx → Calls Try.prog 9 #[.int .i64 space, .string s, .slice a n c] wx fun e w' => e = .returned (.int .i64 (pt space s.toList l)) ∧ Below wx.heap.size wx w' := fun wx hb => point_any space s wx a n c l (h.below hb)
  have hf : ∀ wx, Below w.heap.size w wx → Calls Try.prog 11 #[.int .i64 space, .string s, .slice a n c, .agg #[.int .i64 kind, .string mn, .slice a n c, .bool sf, .string tx]] wx fun e w' => e = .returned (.bool (fg space s.toList (pt space s.toList l) kind mn.toList)) ∧ Below wx.heap.size wx w' := fun wx hb => foreign_any space s wx a n c l (h.below hb) kind mn _ sf tx
  have hv := pt_vals space s.toList l
  have hout : space ≠ 1 → space ≠ 2 → pt space s.toList l = 0 := fun h1 h2 => by simp [pt, h1, h2]
  generalize hp0 : pt space s.toList l = p at hp hv hf hout
  generalize hr : fg space s.toList p kind mn.toList = r at hf
  have h0 : HasM _ _ _ _ _ _ _ := HasM.new w kind mn (.slice a n c) sf tx
  have hb0 : Below w.heap.size w (w.alloc (.cells #[.int .i64 kind, .string mn, .slice a n c, .bool sf, .string tx] 24 (0, 0))) := (Below.refl _ _).alloc (Nat.le_refl _) _
  have H0 := Lib.hid h0
  have B0 := Lib.hid hb0
  have HP := Lib.hid hp
  have HF := Lib.hid hf
  clear h hp hf hp0 h0 hb0
  by_cases e1 : space = 1
  · subst e1
    by_cases k6 : kind = 6
    · subst k6
      rcases hv with rfl | rfl | rfl
      · obtain rfl : r = false := by rw [← hr]; simp [fg, isGlyph, isSvg, isAnn]
        clear hr hout
        go_enter Try.func7, Try.ntmps7
        go_wp2_with fail
        refine (shown_any _).mono ?_; rintro e w1 ⟨rfl, hb⟩
        have H1 := Lib.hid (H0.out.below hb)
        have B1 := Lib.hid (B0.out.trans (hb.mono B0.out.size))
        clear hb
        obtain ⟨c0, c1, c2, c3, c4⟩ := H1.out.cells
        go_wp2_with fail
        refine (HF.out _ B1.out).mono ?_; rintro e w2 ⟨rfl, hb⟩
        have H2 := Lib.hid (H1.out.below hb)
        have B2 := Lib.hid (B1.out.trans (hb.mono B1.out.size))
        clear hb
        clear c0 c1 c2 c3 c4
        obtain ⟨c0, c1, c2, c3, c4⟩ := H2.out.cells
        go_wp2_with fail
        refine (HP.out _ B2.out).mono ?_; rintro e w3 ⟨rfl, hb⟩
        have H3 := Lib.hid (H2.out.below hb)
        have B3 := Lib.hid (B2.out.trans (hb.mono B2.out.size))
        clear hb
        clear c0 c1 c2 c3 c4
        obtain ⟨c0, c1, c2, c3, c4⟩ := H3.out.cells
        go_wp2
        go_ret
        exact ⟨rfl, B3.out⟩
      · obtain rfl : r = false := by rw [← hr]; simp [fg, isGlyph, isSvg, isAnn]
        clear hr hout
        go_enter Try.func7, Try.ntmps7
        go_wp2_with fail
        refine (shown_any _).mono ?_; rintro e w1 ⟨rfl, hb⟩
        have H1 := Lib.hid (H0.out.below hb)
        have B1 := Lib.hid (B0.out.trans (hb.mono B0.out.size))
        clear hb
        obtain ⟨c0, c1, c2, c3, c4⟩ := H1.out.cells
        go_wp2_with fail
        refine (HF.out _ B1.out).mono ?_; rintro e w2 ⟨rfl, hb⟩
        have H2 := Lib.hid (H1.out.below hb)
        have B2 := Lib.hid (B1.out.trans (hb.mono B1.out.size))
        clear hb
        clear c0 c1 c2 c3 c4
        obtain ⟨c0, c1, c2, c3, c4⟩ := H2.out.cells
        go_wp2_with fail
        refine (HP.out _ B2.out).mono ?_; rintro e w3 ⟨rfl, hb⟩
        have H3 := Lib.hid (H2.out.below hb)
        have B3 := Lib.hid (B2.out.trans (hb.mono B2.out.size))
        clear hb
        clear c0 c1 c2 c3 c4
        obtain ⟨c0, c1, c2, c3, c4⟩ := H3.out.cells
        go_wp2
        go_ret
        exact ⟨rfl, B3.out⟩
      · obtain rfl : r = false := by rw [← hr]; simp [fg, isGlyph, isSvg, isAnn]
        clear hr hout
        go_enter Try.func7, Try.ntmps7
        go_wp2_with fail
        refine (shown_any _).mono ?_; rintro e w1 ⟨rfl, hb⟩
        have H1 := Lib.hid (H0.out.below hb)
        have B1 := Lib.hid (B0.out.trans (hb.mono B0.out.size))
        clear hb
        obtain ⟨c0, c1, c2, c3, c4⟩ := H1.out.cells
        go_wp2_with fail
        refine (HF.out _ B1.out).mono ?_; rintro e w2 ⟨rfl, hb⟩
        have H2 := Lib.hid (H1.out.below hb)
        have B2 := Lib.hid (B1.out.trans (hb.mono B1.out.size))
        clear hb
        clear c0 c1 c2 c3 c4
        obtain ⟨c0, c1, c2, c3, c4⟩ := H2.out.cells
        go_wp2_with fail
        refine (HP.out _ B2.out).mono ?_; rintro e w3 ⟨rfl, hb⟩
        have H3 := Lib.hid (H2.out.below hb)
        have B3 := Lib.hid (B2.out.trans (hb.mono B2.out.size))
        clear hb
        clear c0 c1 c2 c3 c4
        obtain ⟨c0, c1, c2, c3, c4⟩ := H3.out.cells
        go_wp2
        go_ret
        exact ⟨rfl, B3.out⟩
    by_cases k1 : kind = 1
    · subst k1
      clear k6
      rcases hv with rfl | rfl | rfl
      · obtain rfl : r = true := by rw [← hr]; simp [fg, isGlyph, isSvg, isAnn]
        clear hr hout
        go_enter Try.func7, Try.ntmps7
        go_wp2_with fail
        refine (shown_any _).mono ?_; rintro e w1 ⟨rfl, hb⟩
        have H1 := Lib.hid (H0.out.below hb)
        have B1 := Lib.hid (B0.out.trans (hb.mono B0.out.size))
        clear hb
        obtain ⟨c0, c1, c2, c3, c4⟩ := H1.out.cells
        go_wp2_with fail
        refine (HF.out _ B1.out).mono ?_; rintro e w2 ⟨rfl, hb⟩
        have H2 := Lib.hid (H1.out.below hb)
        have B2 := Lib.hid (B1.out.trans (hb.mono B1.out.size))
        clear hb
        clear c0 c1 c2 c3 c4
        obtain ⟨c0, c1, c2, c3, c4⟩ := H2.out.cells
        go_wp2_with fail
        refine (HP.out _ B2.out).mono ?_; rintro e w3 ⟨rfl, hb⟩
        have H3 := Lib.hid (H2.out.below hb)
        have B3 := Lib.hid (B2.out.trans (hb.mono B2.out.size))
        clear hb
        clear c0 c1 c2 c3 c4
        obtain ⟨c0, c1, c2, c3, c4⟩ := H3.out.cells
        go_wp2
        go_ret
        exact ⟨rfl, B3.out⟩
      · obtain rfl : r = false := by rw [← hr]; simp [fg, isGlyph, isSvg, isAnn]
        clear hr hout
        go_enter Try.func7, Try.ntmps7
        go_wp2_with fail
        refine (shown_any _).mono ?_; rintro e w1 ⟨rfl, hb⟩
        have H1 := Lib.hid (H0.out.below hb)
        have B1 := Lib.hid (B0.out.trans (hb.mono B0.out.size))
        clear hb
        obtain ⟨c0, c1, c2, c3, c4⟩ := H1.out.cells
        go_wp2_with fail
        refine (HF.out _ B1.out).mono ?_; rintro e w2 ⟨rfl, hb⟩
        have H2 := Lib.hid (H1.out.below hb)
        have B2 := Lib.hid (B1.out.trans (hb.mono B1.out.size))
        clear hb
        clear c0 c1 c2 c3 c4
        obtain ⟨c0, c1, c2, c3, c4⟩ := H2.out.cells
        go_wp2_with fail
        refine (HP.out _ B2.out).mono ?_; rintro e w3 ⟨rfl, hb⟩
        have H3 := Lib.hid (H2.out.below hb)
        have B3 := Lib.hid (B2.out.trans (hb.mono B2.out.size))
        clear hb
        clear c0 c1 c2 c3 c4
        obtain ⟨c0, c1, c2, c3, c4⟩ := H3.out.cells
        go_wp2
        go_ret
        exact ⟨rfl, B3.out⟩
      · obtain rfl : r = false := by rw [← hr]; simp [fg, isGlyph, isSvg, isAnn]
        clear hr hout
        go_enter Try.func7, Try.ntmps7
        go_wp2_with fail
        refine (shown_any _).mono ?_; rintro e w1 ⟨rfl, hb⟩
        have H1 := Lib.hid (H0.out.below hb)
        have B1 := Lib.hid (B0.out.trans (hb.mono B0.out.size))
        clear hb
        obtain ⟨c0, c1, c2, c3, c4⟩ := H1.out.cells
        go_wp2_with fail
        refine (HF.out _ B1.out).mono ?_; rintro e w2 ⟨rfl, hb⟩
        have H2 := Lib.hid (H1.out.below hb)
        have B2 := Lib.hid (B1.out.trans (hb.mono B1.out.size))
        clear hb
        clear c0 c1 c2 c3 c4
        obtain ⟨c0, c1, c2, c3, c4⟩ := H2.out.cells
        go_wp2_with fail
        refine (HP.out _ B2.out).mono ?_; rintro e w3 ⟨rfl, hb⟩
        have H3 := Lib.hid (H2.out.below hb)
        have B3 := Lib.hid (B2.out.trans (hb.mono B2.out.size))
        clear hb
        clear c0 c1 c2 c3 c4
        obtain ⟨c0, c1, c2, c3, c4⟩ := H3.out.cells
        go_wp2
        go_ret
        exact ⟨rfl, B3.out⟩
    by_cases k2 : kind = 2
    · subst k2
      clear k6 k1
      rcases hv with rfl | rfl | rfl
      · obtain rfl : r = true := by rw [← hr]; simp [fg, isGlyph, isSvg, isAnn]
        clear hr hout
        go_enter Try.func7, Try.ntmps7
        go_wp2_with fail
        refine (shown_any _).mono ?_; rintro e w1 ⟨rfl, hb⟩
        have H1 := Lib.hid (H0.out.below hb)
        have B1 := Lib.hid (B0.out.trans (hb.mono B0.out.size))
        clear hb
        obtain ⟨c0, c1, c2, c3, c4⟩ := H1.out.cells
        go_wp2_with fail
        refine (HF.out _ B1.out).mono ?_; rintro e w2 ⟨rfl, hb⟩
        have H2 := Lib.hid (H1.out.below hb)
        have B2 := Lib.hid (B1.out.trans (hb.mono B1.out.size))
        clear hb
        clear c0 c1 c2 c3 c4
        obtain ⟨c0, c1, c2, c3, c4⟩ := H2.out.cells
        go_wp2_with fail
        refine (HP.out _ B2.out).mono ?_; rintro e w3 ⟨rfl, hb⟩
        have H3 := Lib.hid (H2.out.below hb)
        have B3 := Lib.hid (B2.out.trans (hb.mono B2.out.size))
        clear hb
        clear c0 c1 c2 c3 c4
        obtain ⟨c0, c1, c2, c3, c4⟩ := H3.out.cells
        go_wp2
        go_ret
        exact ⟨rfl, B3.out⟩
      · cases hg : (mn.toList == [109, 103, 108, 121, 112, 104])
        · cases hm : (mn.toList == [109, 97, 108, 105, 103, 110, 109, 97, 114, 107])
          · obtain rfl : r = false := by rw [← hr]; simp [fg, isGlyph, isSvg, isAnn, hg, hm]
            clear hr hout
            go_enter Try.func7, Try.ntmps7
            go_wp2_with fail
            refine (shown_any _).mono ?_; rintro e w1 ⟨rfl, hb⟩
            have H1 := Lib.hid (H0.out.below hb)
            have B1 := Lib.hid (B0.out.trans (hb.mono B0.out.size))
            clear hb
            obtain ⟨c0, c1, c2, c3, c4⟩ := H1.out.cells
            go_wp2_with fail
            refine (HF.out _ B1.out).mono ?_; rintro e w2 ⟨rfl, hb⟩
            have H2 := Lib.hid (H1.out.below hb)
            have B2 := Lib.hid (B1.out.trans (hb.mono B1.out.size))
            clear hb
            clear c0 c1 c2 c3 c4
            obtain ⟨c0, c1, c2, c3, c4⟩ := H2.out.cells
            go_wp2_with fail
            refine (HP.out _ B2.out).mono ?_; rintro e w3 ⟨rfl, hb⟩
            have H3 := Lib.hid (H2.out.below hb)
            have B3 := Lib.hid (B2.out.trans (hb.mono B2.out.size))
            clear hb
            clear c0 c1 c2 c3 c4
            obtain ⟨c0, c1, c2, c3, c4⟩ := H3.out.cells
            go_wp2
            go_ret
            exact ⟨rfl, B3.out⟩
          · obtain rfl : r = true := by rw [← hr]; simp [fg, isGlyph, isSvg, isAnn, hg, hm]
            clear hr hout
            go_enter Try.func7, Try.ntmps7
            go_wp2_with fail
            refine (shown_any _).mono ?_; rintro e w1 ⟨rfl, hb⟩
            have H1 := Lib.hid (H0.out.below hb)
            have B1 := Lib.hid (B0.out.trans (hb.mono B0.out.size))
            clear hb
            obtain ⟨c0, c1, c2, c3, c4⟩ := H1.out.cells
            go_wp2_with fail
            refine (HF.out _ B1.out).mono ?_; rintro e w2 ⟨rfl, hb⟩
            have H2 := Lib.hid (H1.out.below hb)
            have B2 := Lib.hid (B1.out.trans (hb.mono B1.out.size))
            clear hb
            clear c0 c1 c2 c3 c4
            obtain ⟨c0, c1, c2, c3, c4⟩ := H2.out.cells
            go_wp2_with fail
            refine (HP.out _ B2.out).mono ?_; rintro e w3 ⟨rfl, hb⟩
            have H3 := Lib.hid (H2.out.below hb)
            have B3 := Lib.hid (B2.out.trans (hb.mono B2.out.size))
            clear hb
            clear c0 c1 c2 c3 c4
            obtain ⟨c0, c1, c2, c3, c4⟩ := H3.out.cells
            go_wp2
            go_ret
            exact ⟨rfl, B3.out⟩
        · obtain rfl : r = true := by rw [← hr]; simp [fg, isGlyph, isSvg, isAnn, hg]
          clear hr hout
          go_enter Try.func7, Try.ntmps7
          go_wp2_with fail
          refine (shown_any _).mono ?_; rintro e w1 ⟨rfl, hb⟩
          have H1 := Lib.hid (H0.out.below hb)
          have B1 := Lib.hid (B0.out.trans (hb.mono B0.out.size))
          clear hb
          obtain ⟨c0, c1, c2, c3, c4⟩ := H1.out.cells
          go_wp2_with fail
          refine (HF.out _ B1.out).mono ?_; rintro e w2 ⟨rfl, hb⟩
          have H2 := Lib.hid (H1.out.below hb)
          have B2 := Lib.hid (B1.out.trans (hb.mono B1.out.size))
          clear hb
          clear c0 c1 c2 c3 c4
          obtain ⟨c0, c1, c2, c3, c4⟩ := H2.out.cells
          go_wp2_with fail
          refine (HP.out _ B2.out).mono ?_; rintro e w3 ⟨rfl, hb⟩
          have H3 := Lib.hid (H2.out.below hb)
          have B3 := Lib.hid (B2.out.trans (hb.mono B2.out.size))
          clear hb
          clear c0 c1 c2 c3 c4
          obtain ⟨c0, c1, c2, c3, c4⟩ := H3.out.cells
          go_wp2
          go_ret
          exact ⟨rfl, B3.out⟩
      · obtain rfl : r = false := by rw [← hr]; simp [fg, isGlyph, isSvg, isAnn]
        clear hr hout
        go_enter Try.func7, Try.ntmps7
        go_wp2_with fail
        refine (shown_any _).mono ?_; rintro e w1 ⟨rfl, hb⟩
        have H1 := Lib.hid (H0.out.below hb)
        have B1 := Lib.hid (B0.out.trans (hb.mono B0.out.size))
        clear hb
        obtain ⟨c0, c1, c2, c3, c4⟩ := H1.out.cells
        go_wp2_with fail
        refine (HF.out _ B1.out).mono ?_; rintro e w2 ⟨rfl, hb⟩
        have H2 := Lib.hid (H1.out.below hb)
        have B2 := Lib.hid (B1.out.trans (hb.mono B1.out.size))
        clear hb
        clear c0 c1 c2 c3 c4
        obtain ⟨c0, c1, c2, c3, c4⟩ := H2.out.cells
        go_wp2_with fail
        refine (HP.out _ B2.out).mono ?_; rintro e w3 ⟨rfl, hb⟩
        have H3 := Lib.hid (H2.out.below hb)
        have B3 := Lib.hid (B2.out.trans (hb.mono B2.out.size))
        clear hb
        clear c0 c1 c2 c3 c4
        obtain ⟨c0, c1, c2, c3, c4⟩ := H3.out.cells
        go_wp2
        go_ret
        exact ⟨rfl, B3.out⟩
    have b6 : (kind == 6) = false := beq_eq_false_iff_ne.2 k6
    have b1 : (kind == 1) = false := beq_eq_false_iff_ne.2 k1
    have b2 : (kind == 2) = false := beq_eq_false_iff_ne.2 k2
    rcases hv with rfl | rfl | rfl
    · obtain rfl : r = true := by rw [← hr]; simp [fg, isGlyph, isSvg, isAnn, k6, k1, k2]
      clear hr hout
      go_enter Try.func7, Try.ntmps7
      go_wp2_with fail
      refine (shown_any _).mono ?_; rintro e w1 ⟨rfl, hb⟩
      have H1 := Lib.hid (H0.out.below hb)
      have B1 := Lib.hid (B0.out.trans (hb.mono B0.out.size))
      clear hb
      obtain ⟨c0, c1, c2, c3, c4⟩ := H1.out.cells
      go_wp2_with fail
      refine (HF.out _ B1.out).mono ?_; rintro e w2 ⟨rfl, hb⟩
      have H2 := Lib.hid (H1.out.below hb)
      have B2 := Lib.hid (B1.out.trans (hb.mono B1.out.size))
      clear hb
      clear c0 c1 c2 c3 c4
      obtain ⟨c0, c1, c2, c3, c4⟩ := H2.out.cells
      go_wp2_with fail
      refine (HP.out _ B2.out).mono ?_; rintro e w3 ⟨rfl, hb⟩
      have H3 := Lib.hid (H2.out.below hb)
      have B3 := Lib.hid (B2.out.trans (hb.mono B2.out.size))
      clear hb
      clear c0 c1 c2 c3 c4
      obtain ⟨c0, c1, c2, c3, c4⟩ := H3.out.cells
      go_wp2
      go_ret
      exact ⟨rfl, B3.out⟩
    · obtain rfl : r = true := by rw [← hr]; simp [fg, isGlyph, isSvg, isAnn, k6, k1, k2]
      clear hr hout
      go_enter Try.func7, Try.ntmps7
      go_wp2_with fail
      refine (shown_any _).mono ?_; rintro e w1 ⟨rfl, hb⟩
      have H1 := Lib.hid (H0.out.below hb)
      have B1 := Lib.hid (B0.out.trans (hb.mono B0.out.size))
      clear hb
      obtain ⟨c0, c1, c2, c3, c4⟩ := H1.out.cells
      go_wp2_with fail
      refine (HF.out _ B1.out).mono ?_; rintro e w2 ⟨rfl, hb⟩
      have H2 := Lib.hid (H1.out.below hb)
      have B2 := Lib.hid (B1.out.trans (hb.mono B1.out.size))
      clear hb
      clear c0 c1 c2 c3 c4
      obtain ⟨c0, c1, c2, c3, c4⟩ := H2.out.cells
      go_wp2_with fail
      refine (HP.out _ B2.out).mono ?_; rintro e w3 ⟨rfl, hb⟩
      have H3 := Lib.hid (H2.out.below hb)
      have B3 := Lib.hid (B2.out.trans (hb.mono B2.out.size))
      clear hb
      clear c0 c1 c2 c3 c4
      obtain ⟨c0, c1, c2, c3, c4⟩ := H3.out.cells
      go_wp2
      go_ret
      exact ⟨rfl, B3.out⟩
    · obtain rfl : r = true := by rw [← hr]; simp [fg, isGlyph, isSvg, isAnn, k6, k1, k2]
      clear hr hout
      go_enter Try.func7, Try.ntmps7
      go_wp2_with fail
      refine (shown_any _).mono ?_; rintro e w1 ⟨rfl, hb⟩
      have H1 := Lib.hid (H0.out.below hb)
      have B1 := Lib.hid (B0.out.trans (hb.mono B0.out.size))
      clear hb
      obtain ⟨c0, c1, c2, c3, c4⟩ := H1.out.cells
      go_wp2_with fail
      refine (HF.out _ B1.out).mono ?_; rintro e w2 ⟨rfl, hb⟩
      have H2 := Lib.hid (H1.out.below hb)
      have B2 := Lib.hid (B1.out.trans (hb.mono B1.out.size))
      clear hb
      clear c0 c1 c2 c3 c4
      obtain ⟨c0, c1, c2, c3, c4⟩ := H2.out.cells
      go_wp2_with fail
      refine (HP.out _ B2.out).mono ?_; rintro e w3 ⟨rfl, hb⟩
      have H3 := Lib.hid (H2.out.below hb)
      have B3 := Lib.hid (B2.out.trans (hb.mono B2.out.size))
      clear hb
      clear c0 c1 c2 c3 c4
      obtain ⟨c0, c1, c2, c3, c4⟩ := H3.out.cells
      go_wp2
      go_ret
      exact ⟨rfl, B3.out⟩
  by_cases e2 : space = 2
  · subst e2
    clear e1
    by_cases k6 : kind = 6
    · subst k6
      rcases hv with rfl | rfl | rfl
      · obtain rfl : r = false := by rw [← hr]; simp [fg, isGlyph, isSvg, isAnn]
        clear hr hout
        go_enter Try.func7, Try.ntmps7
        go_wp2_with fail
        refine (shown_any _).mono ?_; rintro e w1 ⟨rfl, hb⟩
        have H1 := Lib.hid (H0.out.below hb)
        have B1 := Lib.hid (B0.out.trans (hb.mono B0.out.size))
        clear hb
        obtain ⟨c0, c1, c2, c3, c4⟩ := H1.out.cells
        go_wp2_with fail
        refine (HF.out _ B1.out).mono ?_; rintro e w2 ⟨rfl, hb⟩
        have H2 := Lib.hid (H1.out.below hb)
        have B2 := Lib.hid (B1.out.trans (hb.mono B1.out.size))
        clear hb
        clear c0 c1 c2 c3 c4
        obtain ⟨c0, c1, c2, c3, c4⟩ := H2.out.cells
        go_wp2_with fail
        refine (HP.out _ B2.out).mono ?_; rintro e w3 ⟨rfl, hb⟩
        have H3 := Lib.hid (H2.out.below hb)
        have B3 := Lib.hid (B2.out.trans (hb.mono B2.out.size))
        clear hb
        clear c0 c1 c2 c3 c4
        obtain ⟨c0, c1, c2, c3, c4⟩ := H3.out.cells
        go_wp2
        go_ret
        exact ⟨rfl, B3.out⟩
      · obtain rfl : r = false := by rw [← hr]; simp [fg, isGlyph, isSvg, isAnn]
        clear hr hout
        go_enter Try.func7, Try.ntmps7
        go_wp2_with fail
        refine (shown_any _).mono ?_; rintro e w1 ⟨rfl, hb⟩
        have H1 := Lib.hid (H0.out.below hb)
        have B1 := Lib.hid (B0.out.trans (hb.mono B0.out.size))
        clear hb
        obtain ⟨c0, c1, c2, c3, c4⟩ := H1.out.cells
        go_wp2_with fail
        refine (HF.out _ B1.out).mono ?_; rintro e w2 ⟨rfl, hb⟩
        have H2 := Lib.hid (H1.out.below hb)
        have B2 := Lib.hid (B1.out.trans (hb.mono B1.out.size))
        clear hb
        clear c0 c1 c2 c3 c4
        obtain ⟨c0, c1, c2, c3, c4⟩ := H2.out.cells
        go_wp2_with fail
        refine (HP.out _ B2.out).mono ?_; rintro e w3 ⟨rfl, hb⟩
        have H3 := Lib.hid (H2.out.below hb)
        have B3 := Lib.hid (B2.out.trans (hb.mono B2.out.size))
        clear hb
        clear c0 c1 c2 c3 c4
        obtain ⟨c0, c1, c2, c3, c4⟩ := H3.out.cells
        go_wp2
        go_ret
        exact ⟨rfl, B3.out⟩
      · obtain rfl : r = false := by rw [← hr]; simp [fg, isGlyph, isSvg, isAnn]
        clear hr hout
        go_enter Try.func7, Try.ntmps7
        go_wp2_with fail
        refine (shown_any _).mono ?_; rintro e w1 ⟨rfl, hb⟩
        have H1 := Lib.hid (H0.out.below hb)
        have B1 := Lib.hid (B0.out.trans (hb.mono B0.out.size))
        clear hb
        obtain ⟨c0, c1, c2, c3, c4⟩ := H1.out.cells
        go_wp2_with fail
        refine (HF.out _ B1.out).mono ?_; rintro e w2 ⟨rfl, hb⟩
        have H2 := Lib.hid (H1.out.below hb)
        have B2 := Lib.hid (B1.out.trans (hb.mono B1.out.size))
        clear hb
        clear c0 c1 c2 c3 c4
        obtain ⟨c0, c1, c2, c3, c4⟩ := H2.out.cells
        go_wp2_with fail
        refine (HP.out _ B2.out).mono ?_; rintro e w3 ⟨rfl, hb⟩
        have H3 := Lib.hid (H2.out.below hb)
        have B3 := Lib.hid (B2.out.trans (hb.mono B2.out.size))
        clear hb
        clear c0 c1 c2 c3 c4
        obtain ⟨c0, c1, c2, c3, c4⟩ := H3.out.cells
        go_wp2
        go_ret
        exact ⟨rfl, B3.out⟩
    by_cases k1 : kind = 1
    · subst k1
      clear k6
      rcases hv with rfl | rfl | rfl
      · cases ha : (s.toList == [97, 110, 110, 111, 116, 97, 116, 105, 111, 110, 45, 120, 109, 108])
        · obtain rfl : r = true := by rw [← hr]; simp [fg, isGlyph, isSvg, isAnn, ha]
          clear hr hout
          go_enter Try.func7, Try.ntmps7
          go_wp2_with fail
          refine (shown_any _).mono ?_; rintro e w1 ⟨rfl, hb⟩
          have H1 := Lib.hid (H0.out.below hb)
          have B1 := Lib.hid (B0.out.trans (hb.mono B0.out.size))
          clear hb
          obtain ⟨c0, c1, c2, c3, c4⟩ := H1.out.cells
          go_wp2_with fail
          refine (HF.out _ B1.out).mono ?_; rintro e w2 ⟨rfl, hb⟩
          have H2 := Lib.hid (H1.out.below hb)
          have B2 := Lib.hid (B1.out.trans (hb.mono B1.out.size))
          clear hb
          clear c0 c1 c2 c3 c4
          obtain ⟨c0, c1, c2, c3, c4⟩ := H2.out.cells
          go_wp2_with fail
          refine (HP.out _ B2.out).mono ?_; rintro e w3 ⟨rfl, hb⟩
          have H3 := Lib.hid (H2.out.below hb)
          have B3 := Lib.hid (B2.out.trans (hb.mono B2.out.size))
          clear hb
          clear c0 c1 c2 c3 c4
          obtain ⟨c0, c1, c2, c3, c4⟩ := H3.out.cells
          go_wp2
          go_ret
          exact ⟨rfl, B3.out⟩
        · obtain rfl : r = true := by rw [← hr]; simp [fg, isGlyph, isSvg, isAnn, ha]
          clear hr hout
          go_enter Try.func7, Try.ntmps7
          go_wp2_with fail
          refine (shown_any _).mono ?_; rintro e w1 ⟨rfl, hb⟩
          have H1 := Lib.hid (H0.out.below hb)
          have B1 := Lib.hid (B0.out.trans (hb.mono B0.out.size))
          clear hb
          obtain ⟨c0, c1, c2, c3, c4⟩ := H1.out.cells
          go_wp2_with fail
          refine (HF.out _ B1.out).mono ?_; rintro e w2 ⟨rfl, hb⟩
          have H2 := Lib.hid (H1.out.below hb)
          have B2 := Lib.hid (B1.out.trans (hb.mono B1.out.size))
          clear hb
          clear c0 c1 c2 c3 c4
          obtain ⟨c0, c1, c2, c3, c4⟩ := H2.out.cells
          go_wp2_with fail
          refine (HP.out _ B2.out).mono ?_; rintro e w3 ⟨rfl, hb⟩
          have H3 := Lib.hid (H2.out.below hb)
          have B3 := Lib.hid (B2.out.trans (hb.mono B2.out.size))
          clear hb
          clear c0 c1 c2 c3 c4
          obtain ⟨c0, c1, c2, c3, c4⟩ := H3.out.cells
          go_wp2
          go_ret
          exact ⟨rfl, B3.out⟩
      · obtain rfl : r = false := by rw [← hr]; simp [fg, isGlyph, isSvg, isAnn]
        clear hr hout
        go_enter Try.func7, Try.ntmps7
        go_wp2_with fail
        refine (shown_any _).mono ?_; rintro e w1 ⟨rfl, hb⟩
        have H1 := Lib.hid (H0.out.below hb)
        have B1 := Lib.hid (B0.out.trans (hb.mono B0.out.size))
        clear hb
        obtain ⟨c0, c1, c2, c3, c4⟩ := H1.out.cells
        go_wp2_with fail
        refine (HF.out _ B1.out).mono ?_; rintro e w2 ⟨rfl, hb⟩
        have H2 := Lib.hid (H1.out.below hb)
        have B2 := Lib.hid (B1.out.trans (hb.mono B1.out.size))
        clear hb
        clear c0 c1 c2 c3 c4
        obtain ⟨c0, c1, c2, c3, c4⟩ := H2.out.cells
        go_wp2_with fail
        refine (HP.out _ B2.out).mono ?_; rintro e w3 ⟨rfl, hb⟩
        have H3 := Lib.hid (H2.out.below hb)
        have B3 := Lib.hid (B2.out.trans (hb.mono B2.out.size))
        clear hb
        clear c0 c1 c2 c3 c4
        obtain ⟨c0, c1, c2, c3, c4⟩ := H3.out.cells
        go_wp2
        go_ret
        exact ⟨rfl, B3.out⟩
      · obtain rfl : r = false := by rw [← hr]; simp [fg, isGlyph, isSvg, isAnn]
        clear hr hout
        go_enter Try.func7, Try.ntmps7
        go_wp2_with fail
        refine (shown_any _).mono ?_; rintro e w1 ⟨rfl, hb⟩
        have H1 := Lib.hid (H0.out.below hb)
        have B1 := Lib.hid (B0.out.trans (hb.mono B0.out.size))
        clear hb
        obtain ⟨c0, c1, c2, c3, c4⟩ := H1.out.cells
        go_wp2_with fail
        refine (HF.out _ B1.out).mono ?_; rintro e w2 ⟨rfl, hb⟩
        have H2 := Lib.hid (H1.out.below hb)
        have B2 := Lib.hid (B1.out.trans (hb.mono B1.out.size))
        clear hb
        clear c0 c1 c2 c3 c4
        obtain ⟨c0, c1, c2, c3, c4⟩ := H2.out.cells
        go_wp2_with fail
        refine (HP.out _ B2.out).mono ?_; rintro e w3 ⟨rfl, hb⟩
        have H3 := Lib.hid (H2.out.below hb)
        have B3 := Lib.hid (B2.out.trans (hb.mono B2.out.size))
        clear hb
        clear c0 c1 c2 c3 c4
        obtain ⟨c0, c1, c2, c3, c4⟩ := H3.out.cells
        go_wp2
        go_ret
        exact ⟨rfl, B3.out⟩
    by_cases k2 : kind = 2
    · subst k2
      clear k6 k1
      rcases hv with rfl | rfl | rfl
      · cases ha : (s.toList == [97, 110, 110, 111, 116, 97, 116, 105, 111, 110, 45, 120, 109, 108])
        · obtain rfl : r = true := by rw [← hr]; simp [fg, isGlyph, isSvg, isAnn, ha]
          clear hr hout
          go_enter Try.func7, Try.ntmps7
          go_wp2_with fail
          refine (shown_any _).mono ?_; rintro e w1 ⟨rfl, hb⟩
          have H1 := Lib.hid (H0.out.below hb)
          have B1 := Lib.hid (B0.out.trans (hb.mono B0.out.size))
          clear hb
          obtain ⟨c0, c1, c2, c3, c4⟩ := H1.out.cells
          go_wp2_with fail
          refine (HF.out _ B1.out).mono ?_; rintro e w2 ⟨rfl, hb⟩
          have H2 := Lib.hid (H1.out.below hb)
          have B2 := Lib.hid (B1.out.trans (hb.mono B1.out.size))
          clear hb
          clear c0 c1 c2 c3 c4
          obtain ⟨c0, c1, c2, c3, c4⟩ := H2.out.cells
          go_wp2_with fail
          refine (HP.out _ B2.out).mono ?_; rintro e w3 ⟨rfl, hb⟩
          have H3 := Lib.hid (H2.out.below hb)
          have B3 := Lib.hid (B2.out.trans (hb.mono B2.out.size))
          clear hb
          clear c0 c1 c2 c3 c4
          obtain ⟨c0, c1, c2, c3, c4⟩ := H3.out.cells
          go_wp2
          go_ret
          exact ⟨rfl, B3.out⟩
        · cases hs : (mn.toList == [115, 118, 103])
          · obtain rfl : r = true := by rw [← hr]; simp [fg, isGlyph, isSvg, isAnn, ha, hs]
            clear hr hout
            go_enter Try.func7, Try.ntmps7
            go_wp2_with fail
            refine (shown_any _).mono ?_; rintro e w1 ⟨rfl, hb⟩
            have H1 := Lib.hid (H0.out.below hb)
            have B1 := Lib.hid (B0.out.trans (hb.mono B0.out.size))
            clear hb
            obtain ⟨c0, c1, c2, c3, c4⟩ := H1.out.cells
            go_wp2_with fail
            refine (HF.out _ B1.out).mono ?_; rintro e w2 ⟨rfl, hb⟩
            have H2 := Lib.hid (H1.out.below hb)
            have B2 := Lib.hid (B1.out.trans (hb.mono B1.out.size))
            clear hb
            clear c0 c1 c2 c3 c4
            obtain ⟨c0, c1, c2, c3, c4⟩ := H2.out.cells
            go_wp2_with fail
            refine (HP.out _ B2.out).mono ?_; rintro e w3 ⟨rfl, hb⟩
            have H3 := Lib.hid (H2.out.below hb)
            have B3 := Lib.hid (B2.out.trans (hb.mono B2.out.size))
            clear hb
            clear c0 c1 c2 c3 c4
            obtain ⟨c0, c1, c2, c3, c4⟩ := H3.out.cells
            go_wp2
            go_ret
            exact ⟨rfl, B3.out⟩
          · obtain rfl : r = false := by rw [← hr]; simp [fg, isGlyph, isSvg, isAnn, ha, hs]
            clear hr hout
            go_enter Try.func7, Try.ntmps7
            go_wp2_with fail
            refine (shown_any _).mono ?_; rintro e w1 ⟨rfl, hb⟩
            have H1 := Lib.hid (H0.out.below hb)
            have B1 := Lib.hid (B0.out.trans (hb.mono B0.out.size))
            clear hb
            obtain ⟨c0, c1, c2, c3, c4⟩ := H1.out.cells
            go_wp2_with fail
            refine (HF.out _ B1.out).mono ?_; rintro e w2 ⟨rfl, hb⟩
            have H2 := Lib.hid (H1.out.below hb)
            have B2 := Lib.hid (B1.out.trans (hb.mono B1.out.size))
            clear hb
            clear c0 c1 c2 c3 c4
            obtain ⟨c0, c1, c2, c3, c4⟩ := H2.out.cells
            go_wp2_with fail
            refine (HP.out _ B2.out).mono ?_; rintro e w3 ⟨rfl, hb⟩
            have H3 := Lib.hid (H2.out.below hb)
            have B3 := Lib.hid (B2.out.trans (hb.mono B2.out.size))
            clear hb
            clear c0 c1 c2 c3 c4
            obtain ⟨c0, c1, c2, c3, c4⟩ := H3.out.cells
            go_wp2
            go_ret
            exact ⟨rfl, B3.out⟩
      · cases hg : (mn.toList == [109, 103, 108, 121, 112, 104])
        · cases hm : (mn.toList == [109, 97, 108, 105, 103, 110, 109, 97, 114, 107])
          · obtain rfl : r = false := by rw [← hr]; simp [fg, isGlyph, isSvg, isAnn, hg, hm]
            clear hr hout
            go_enter Try.func7, Try.ntmps7
            go_wp2_with fail
            refine (shown_any _).mono ?_; rintro e w1 ⟨rfl, hb⟩
            have H1 := Lib.hid (H0.out.below hb)
            have B1 := Lib.hid (B0.out.trans (hb.mono B0.out.size))
            clear hb
            obtain ⟨c0, c1, c2, c3, c4⟩ := H1.out.cells
            go_wp2_with fail
            refine (HF.out _ B1.out).mono ?_; rintro e w2 ⟨rfl, hb⟩
            have H2 := Lib.hid (H1.out.below hb)
            have B2 := Lib.hid (B1.out.trans (hb.mono B1.out.size))
            clear hb
            clear c0 c1 c2 c3 c4
            obtain ⟨c0, c1, c2, c3, c4⟩ := H2.out.cells
            go_wp2_with fail
            refine (HP.out _ B2.out).mono ?_; rintro e w3 ⟨rfl, hb⟩
            have H3 := Lib.hid (H2.out.below hb)
            have B3 := Lib.hid (B2.out.trans (hb.mono B2.out.size))
            clear hb
            clear c0 c1 c2 c3 c4
            obtain ⟨c0, c1, c2, c3, c4⟩ := H3.out.cells
            go_wp2
            go_ret
            exact ⟨rfl, B3.out⟩
          · cases ha : (s.toList == [97, 110, 110, 111, 116, 97, 116, 105, 111, 110, 45, 120, 109, 108])
            · obtain rfl : r = true := by rw [← hr]; simp [fg, isGlyph, isSvg, isAnn, hg, hm, ha]
              clear hr hout
              go_enter Try.func7, Try.ntmps7
              go_wp2_with fail
              refine (shown_any _).mono ?_; rintro e w1 ⟨rfl, hb⟩
              have H1 := Lib.hid (H0.out.below hb)
              have B1 := Lib.hid (B0.out.trans (hb.mono B0.out.size))
              clear hb
              obtain ⟨c0, c1, c2, c3, c4⟩ := H1.out.cells
              go_wp2_with fail
              refine (HF.out _ B1.out).mono ?_; rintro e w2 ⟨rfl, hb⟩
              have H2 := Lib.hid (H1.out.below hb)
              have B2 := Lib.hid (B1.out.trans (hb.mono B1.out.size))
              clear hb
              clear c0 c1 c2 c3 c4
              obtain ⟨c0, c1, c2, c3, c4⟩ := H2.out.cells
              go_wp2_with fail
              refine (HP.out _ B2.out).mono ?_; rintro e w3 ⟨rfl, hb⟩
              have H3 := Lib.hid (H2.out.below hb)
              have B3 := Lib.hid (B2.out.trans (hb.mono B2.out.size))
              clear hb
              clear c0 c1 c2 c3 c4
              obtain ⟨c0, c1, c2, c3, c4⟩ := H3.out.cells
              go_wp2
              go_ret
              exact ⟨rfl, B3.out⟩
            · cases hs : (mn.toList == [115, 118, 103])
              · obtain rfl : r = true := by rw [← hr]; simp [fg, isGlyph, isSvg, isAnn, hg, hm, ha, hs]
                clear hr hout
                go_enter Try.func7, Try.ntmps7
                go_wp2_with fail
                refine (shown_any _).mono ?_; rintro e w1 ⟨rfl, hb⟩
                have H1 := Lib.hid (H0.out.below hb)
                have B1 := Lib.hid (B0.out.trans (hb.mono B0.out.size))
                clear hb
                obtain ⟨c0, c1, c2, c3, c4⟩ := H1.out.cells
                go_wp2_with fail
                refine (HF.out _ B1.out).mono ?_; rintro e w2 ⟨rfl, hb⟩
                have H2 := Lib.hid (H1.out.below hb)
                have B2 := Lib.hid (B1.out.trans (hb.mono B1.out.size))
                clear hb
                clear c0 c1 c2 c3 c4
                obtain ⟨c0, c1, c2, c3, c4⟩ := H2.out.cells
                go_wp2_with fail
                refine (HP.out _ B2.out).mono ?_; rintro e w3 ⟨rfl, hb⟩
                have H3 := Lib.hid (H2.out.below hb)
                have B3 := Lib.hid (B2.out.trans (hb.mono B2.out.size))
                clear hb
                clear c0 c1 c2 c3 c4
                obtain ⟨c0, c1, c2, c3, c4⟩ := H3.out.cells
                go_wp2
                go_ret
                exact ⟨rfl, B3.out⟩
              · simp at hm hs
                rw [hm] at hs
                simp at hs
        · cases ha : (s.toList == [97, 110, 110, 111, 116, 97, 116, 105, 111, 110, 45, 120, 109, 108])
          · obtain rfl : r = true := by rw [← hr]; simp [fg, isGlyph, isSvg, isAnn, hg, ha]
            clear hr hout
            go_enter Try.func7, Try.ntmps7
            go_wp2_with fail
            refine (shown_any _).mono ?_; rintro e w1 ⟨rfl, hb⟩
            have H1 := Lib.hid (H0.out.below hb)
            have B1 := Lib.hid (B0.out.trans (hb.mono B0.out.size))
            clear hb
            obtain ⟨c0, c1, c2, c3, c4⟩ := H1.out.cells
            go_wp2_with fail
            refine (HF.out _ B1.out).mono ?_; rintro e w2 ⟨rfl, hb⟩
            have H2 := Lib.hid (H1.out.below hb)
            have B2 := Lib.hid (B1.out.trans (hb.mono B1.out.size))
            clear hb
            clear c0 c1 c2 c3 c4
            obtain ⟨c0, c1, c2, c3, c4⟩ := H2.out.cells
            go_wp2_with fail
            refine (HP.out _ B2.out).mono ?_; rintro e w3 ⟨rfl, hb⟩
            have H3 := Lib.hid (H2.out.below hb)
            have B3 := Lib.hid (B2.out.trans (hb.mono B2.out.size))
            clear hb
            clear c0 c1 c2 c3 c4
            obtain ⟨c0, c1, c2, c3, c4⟩ := H3.out.cells
            go_wp2
            go_ret
            exact ⟨rfl, B3.out⟩
          · cases hs : (mn.toList == [115, 118, 103])
            · obtain rfl : r = true := by rw [← hr]; simp [fg, isGlyph, isSvg, isAnn, hg, ha, hs]
              clear hr hout
              go_enter Try.func7, Try.ntmps7
              go_wp2_with fail
              refine (shown_any _).mono ?_; rintro e w1 ⟨rfl, hb⟩
              have H1 := Lib.hid (H0.out.below hb)
              have B1 := Lib.hid (B0.out.trans (hb.mono B0.out.size))
              clear hb
              obtain ⟨c0, c1, c2, c3, c4⟩ := H1.out.cells
              go_wp2_with fail
              refine (HF.out _ B1.out).mono ?_; rintro e w2 ⟨rfl, hb⟩
              have H2 := Lib.hid (H1.out.below hb)
              have B2 := Lib.hid (B1.out.trans (hb.mono B1.out.size))
              clear hb
              clear c0 c1 c2 c3 c4
              obtain ⟨c0, c1, c2, c3, c4⟩ := H2.out.cells
              go_wp2_with fail
              refine (HP.out _ B2.out).mono ?_; rintro e w3 ⟨rfl, hb⟩
              have H3 := Lib.hid (H2.out.below hb)
              have B3 := Lib.hid (B2.out.trans (hb.mono B2.out.size))
              clear hb
              clear c0 c1 c2 c3 c4
              obtain ⟨c0, c1, c2, c3, c4⟩ := H3.out.cells
              go_wp2
              go_ret
              exact ⟨rfl, B3.out⟩
            · simp at hg hs
              rw [hg] at hs
              simp at hs
      · obtain rfl : r = false := by rw [← hr]; simp [fg, isGlyph, isSvg, isAnn]
        clear hr hout
        go_enter Try.func7, Try.ntmps7
        go_wp2_with fail
        refine (shown_any _).mono ?_; rintro e w1 ⟨rfl, hb⟩
        have H1 := Lib.hid (H0.out.below hb)
        have B1 := Lib.hid (B0.out.trans (hb.mono B0.out.size))
        clear hb
        obtain ⟨c0, c1, c2, c3, c4⟩ := H1.out.cells
        go_wp2_with fail
        refine (HF.out _ B1.out).mono ?_; rintro e w2 ⟨rfl, hb⟩
        have H2 := Lib.hid (H1.out.below hb)
        have B2 := Lib.hid (B1.out.trans (hb.mono B1.out.size))
        clear hb
        clear c0 c1 c2 c3 c4
        obtain ⟨c0, c1, c2, c3, c4⟩ := H2.out.cells
        go_wp2_with fail
        refine (HP.out _ B2.out).mono ?_; rintro e w3 ⟨rfl, hb⟩
        have H3 := Lib.hid (H2.out.below hb)
        have B3 := Lib.hid (B2.out.trans (hb.mono B2.out.size))
        clear hb
        clear c0 c1 c2 c3 c4
        obtain ⟨c0, c1, c2, c3, c4⟩ := H3.out.cells
        go_wp2
        go_ret
        exact ⟨rfl, B3.out⟩
    have b6 : (kind == 6) = false := beq_eq_false_iff_ne.2 k6
    have b1 : (kind == 1) = false := beq_eq_false_iff_ne.2 k1
    have b2 : (kind == 2) = false := beq_eq_false_iff_ne.2 k2
    rcases hv with rfl | rfl | rfl
    · cases ha : (s.toList == [97, 110, 110, 111, 116, 97, 116, 105, 111, 110, 45, 120, 109, 108])
      · obtain rfl : r = true := by rw [← hr]; simp [fg, isGlyph, isSvg, isAnn, k6, k1, k2, ha]
        clear hr hout
        go_enter Try.func7, Try.ntmps7
        go_wp2_with fail
        refine (shown_any _).mono ?_; rintro e w1 ⟨rfl, hb⟩
        have H1 := Lib.hid (H0.out.below hb)
        have B1 := Lib.hid (B0.out.trans (hb.mono B0.out.size))
        clear hb
        obtain ⟨c0, c1, c2, c3, c4⟩ := H1.out.cells
        go_wp2_with fail
        refine (HF.out _ B1.out).mono ?_; rintro e w2 ⟨rfl, hb⟩
        have H2 := Lib.hid (H1.out.below hb)
        have B2 := Lib.hid (B1.out.trans (hb.mono B1.out.size))
        clear hb
        clear c0 c1 c2 c3 c4
        obtain ⟨c0, c1, c2, c3, c4⟩ := H2.out.cells
        go_wp2_with fail
        refine (HP.out _ B2.out).mono ?_; rintro e w3 ⟨rfl, hb⟩
        have H3 := Lib.hid (H2.out.below hb)
        have B3 := Lib.hid (B2.out.trans (hb.mono B2.out.size))
        clear hb
        clear c0 c1 c2 c3 c4
        obtain ⟨c0, c1, c2, c3, c4⟩ := H3.out.cells
        go_wp2
        go_ret
        exact ⟨rfl, B3.out⟩
      · obtain rfl : r = true := by rw [← hr]; simp [fg, isGlyph, isSvg, isAnn, k6, k1, k2, ha]
        clear hr hout
        go_enter Try.func7, Try.ntmps7
        go_wp2_with fail
        refine (shown_any _).mono ?_; rintro e w1 ⟨rfl, hb⟩
        have H1 := Lib.hid (H0.out.below hb)
        have B1 := Lib.hid (B0.out.trans (hb.mono B0.out.size))
        clear hb
        obtain ⟨c0, c1, c2, c3, c4⟩ := H1.out.cells
        go_wp2_with fail
        refine (HF.out _ B1.out).mono ?_; rintro e w2 ⟨rfl, hb⟩
        have H2 := Lib.hid (H1.out.below hb)
        have B2 := Lib.hid (B1.out.trans (hb.mono B1.out.size))
        clear hb
        clear c0 c1 c2 c3 c4
        obtain ⟨c0, c1, c2, c3, c4⟩ := H2.out.cells
        go_wp2_with fail
        refine (HP.out _ B2.out).mono ?_; rintro e w3 ⟨rfl, hb⟩
        have H3 := Lib.hid (H2.out.below hb)
        have B3 := Lib.hid (B2.out.trans (hb.mono B2.out.size))
        clear hb
        clear c0 c1 c2 c3 c4
        obtain ⟨c0, c1, c2, c3, c4⟩ := H3.out.cells
        go_wp2
        go_ret
        exact ⟨rfl, B3.out⟩
    · cases ha : (s.toList == [97, 110, 110, 111, 116, 97, 116, 105, 111, 110, 45, 120, 109, 108])
      · obtain rfl : r = true := by rw [← hr]; simp [fg, isGlyph, isSvg, isAnn, k6, k1, k2, ha]
        clear hr hout
        go_enter Try.func7, Try.ntmps7
        go_wp2_with fail
        refine (shown_any _).mono ?_; rintro e w1 ⟨rfl, hb⟩
        have H1 := Lib.hid (H0.out.below hb)
        have B1 := Lib.hid (B0.out.trans (hb.mono B0.out.size))
        clear hb
        obtain ⟨c0, c1, c2, c3, c4⟩ := H1.out.cells
        go_wp2_with fail
        refine (HF.out _ B1.out).mono ?_; rintro e w2 ⟨rfl, hb⟩
        have H2 := Lib.hid (H1.out.below hb)
        have B2 := Lib.hid (B1.out.trans (hb.mono B1.out.size))
        clear hb
        clear c0 c1 c2 c3 c4
        obtain ⟨c0, c1, c2, c3, c4⟩ := H2.out.cells
        go_wp2_with fail
        refine (HP.out _ B2.out).mono ?_; rintro e w3 ⟨rfl, hb⟩
        have H3 := Lib.hid (H2.out.below hb)
        have B3 := Lib.hid (B2.out.trans (hb.mono B2.out.size))
        clear hb
        clear c0 c1 c2 c3 c4
        obtain ⟨c0, c1, c2, c3, c4⟩ := H3.out.cells
        go_wp2
        go_ret
        exact ⟨rfl, B3.out⟩
      · obtain rfl : r = true := by rw [← hr]; simp [fg, isGlyph, isSvg, isAnn, k6, k1, k2, ha]
        clear hr hout
        go_enter Try.func7, Try.ntmps7
        go_wp2_with fail
        refine (shown_any _).mono ?_; rintro e w1 ⟨rfl, hb⟩
        have H1 := Lib.hid (H0.out.below hb)
        have B1 := Lib.hid (B0.out.trans (hb.mono B0.out.size))
        clear hb
        obtain ⟨c0, c1, c2, c3, c4⟩ := H1.out.cells
        go_wp2_with fail
        refine (HF.out _ B1.out).mono ?_; rintro e w2 ⟨rfl, hb⟩
        have H2 := Lib.hid (H1.out.below hb)
        have B2 := Lib.hid (B1.out.trans (hb.mono B1.out.size))
        clear hb
        clear c0 c1 c2 c3 c4
        obtain ⟨c0, c1, c2, c3, c4⟩ := H2.out.cells
        go_wp2_with fail
        refine (HP.out _ B2.out).mono ?_; rintro e w3 ⟨rfl, hb⟩
        have H3 := Lib.hid (H2.out.below hb)
        have B3 := Lib.hid (B2.out.trans (hb.mono B2.out.size))
        clear hb
        clear c0 c1 c2 c3 c4
        obtain ⟨c0, c1, c2, c3, c4⟩ := H3.out.cells
        go_wp2
        go_ret
        exact ⟨rfl, B3.out⟩
    · cases ha : (s.toList == [97, 110, 110, 111, 116, 97, 116, 105, 111, 110, 45, 120, 109, 108])
      · obtain rfl : r = true := by rw [← hr]; simp [fg, isGlyph, isSvg, isAnn, k6, k1, k2, ha]
        clear hr hout
        go_enter Try.func7, Try.ntmps7
        go_wp2_with fail
        refine (shown_any _).mono ?_; rintro e w1 ⟨rfl, hb⟩
        have H1 := Lib.hid (H0.out.below hb)
        have B1 := Lib.hid (B0.out.trans (hb.mono B0.out.size))
        clear hb
        obtain ⟨c0, c1, c2, c3, c4⟩ := H1.out.cells
        go_wp2_with fail
        refine (HF.out _ B1.out).mono ?_; rintro e w2 ⟨rfl, hb⟩
        have H2 := Lib.hid (H1.out.below hb)
        have B2 := Lib.hid (B1.out.trans (hb.mono B1.out.size))
        clear hb
        clear c0 c1 c2 c3 c4
        obtain ⟨c0, c1, c2, c3, c4⟩ := H2.out.cells
        go_wp2_with fail
        refine (HP.out _ B2.out).mono ?_; rintro e w3 ⟨rfl, hb⟩
        have H3 := Lib.hid (H2.out.below hb)
        have B3 := Lib.hid (B2.out.trans (hb.mono B2.out.size))
        clear hb
        clear c0 c1 c2 c3 c4
        obtain ⟨c0, c1, c2, c3, c4⟩ := H3.out.cells
        go_wp2
        go_ret
        exact ⟨rfl, B3.out⟩
      · obtain rfl : r = true := by rw [← hr]; simp [fg, isGlyph, isSvg, isAnn, k6, k1, k2, ha]
        clear hr hout
        go_enter Try.func7, Try.ntmps7
        go_wp2_with fail
        refine (shown_any _).mono ?_; rintro e w1 ⟨rfl, hb⟩
        have H1 := Lib.hid (H0.out.below hb)
        have B1 := Lib.hid (B0.out.trans (hb.mono B0.out.size))
        clear hb
        obtain ⟨c0, c1, c2, c3, c4⟩ := H1.out.cells
        go_wp2_with fail
        refine (HF.out _ B1.out).mono ?_; rintro e w2 ⟨rfl, hb⟩
        have H2 := Lib.hid (H1.out.below hb)
        have B2 := Lib.hid (B1.out.trans (hb.mono B1.out.size))
        clear hb
        clear c0 c1 c2 c3 c4
        obtain ⟨c0, c1, c2, c3, c4⟩ := H2.out.cells
        go_wp2_with fail
        refine (HP.out _ B2.out).mono ?_; rintro e w3 ⟨rfl, hb⟩
        have H3 := Lib.hid (H2.out.below hb)
        have B3 := Lib.hid (B2.out.trans (hb.mono B2.out.size))
        clear hb
        clear c0 c1 c2 c3 c4
        obtain ⟨c0, c1, c2, c3, c4⟩ := H3.out.cells
        go_wp2
        go_ret
        exact ⟨rfl, B3.out⟩
  have b1 : (space == 1) = false := beq_eq_false_iff_ne.2 e1
  have b2 : (space == 2) = false := beq_eq_false_iff_ne.2 e2
  obtain rfl := hout e1 e2
  obtain rfl : r = false := by rw [← hr]; simp [fg, isGlyph, isSvg, isAnn, e1, e2]
  clear hr hout
  go_enter Try.func7, Try.ntmps7
  go_wp2_with fail
  refine (shown_any _).mono ?_; rintro e w1 ⟨rfl, hb⟩
  have H1 := Lib.hid (H0.out.below hb)
  have B1 := Lib.hid (B0.out.trans (hb.mono B0.out.size))
  clear hb
  obtain ⟨c0, c1, c2, c3, c4⟩ := H1.out.cells
  go_wp2_with fail
  refine (HF.out _ B1.out).mono ?_; rintro e w2 ⟨rfl, hb⟩
  have H2 := Lib.hid (H1.out.below hb)
  have B2 := Lib.hid (B1.out.trans (hb.mono B1.out.size))
  clear hb
  clear c0 c1 c2 c3 c4
  obtain ⟨c0, c1, c2, c3, c4⟩ := H2.out.cells
  go_wp2_with fail
  refine (HP.out _ B2.out).mono ?_; rintro e w3 ⟨rfl, hb⟩
  have H3 := Lib.hid (H2.out.below hb)
  have B3 := Lib.hid (B2.out.trans (hb.mono B2.out.size))
  clear hb
  clear c0 c1 c2 c3 c4
  obtain ⟨c0, c1, c2, c3, c4⟩ := H3.out.cells
  go_wp2
  go_ret
  exact ⟨rfl, B3.out⟩
end Go.Proofs.Ytopmahhlebkjiaa
