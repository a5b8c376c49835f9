/- What holds of drawings and formulas in any case. -/
import Derived.Test.YtopmahhlebkjiaaE
namespace Go.Proofs.Ytopmahhlebkjiaa
open Go.RowKit

theorem no_attrs (w : World) : Attrs w none 0 [] := ⟨rfl, by omega, fun j hj => by simp at hj, fun j hj => by simp at hj⟩

set_option maxHeartbeats 1000000 in
theorem breaks_b (w : World) : Calls Try.prog 13 #[.agg #[.int .i64 2, .string ⟨#[98]⟩, .slice none 0 0, .bool false, .string ⟨#[]⟩]] w fun e w' => e = .returned (.bool true) ∧ Below w.heap.size w w' := by
  go_enter Try.func13, Try.ntmps13
  go_wp2_with go_in
  go_ret
  exact ⟨rfl, ((Below.refl _ _).alloc (Nat.le_refl _) _).alloc (by simp) _⟩
theorem name_svg (w : World) : Calls Try.prog 18 #[.int .i64 1, .string ⟨#[99, 108, 105, 112, 112, 97, 116, 104]⟩] w fun e w' => e = .returned (.string ⟨#[99, 108, 105, 112, 80, 97, 116, 104]⟩) ∧ w = w' := by
  go_enter Try.func18, Try.ntmps18
  go_wp2
  go_ret
  exact ⟨rfl, rfl⟩
theorem name_math (w : World) : Calls Try.prog 18 #[.int .i64 2, .string ⟨#[99, 108, 105, 112, 112, 97, 116, 104]⟩] w fun e w' => e = .returned (.string ⟨#[99, 108, 105, 112, 112, 97, 116, 104]⟩) ∧ w = w' := by
  go_enter Try.func18, Try.ntmps18
  go_wp2
  go_ret
  exact ⟨rfl, rfl⟩
theorem pt_title_svg (w : World) : Calls Try.prog 9 #[.int .i64 1, .string ⟨#[116, 105, 116, 108, 101]⟩, .slice none 0 0] w fun e w' => e = .returned (.int .i64 2) ∧ Below w.heap.size w w' := by
  have := point_any 1 ⟨#[116, 105, 116, 108, 101]⟩ w none 0 0 [] (no_attrs w)
  rw [show pt 1 (ByteArray.mk #[116, 105, 116, 108, 101]).toList [] = 2 by rw [Lib.toList_data]; rfl] at this
  exact this
theorem pt_title_html (w : World) : Calls Try.prog 9 #[.int .i64 0, .string ⟨#[116, 105, 116, 108, 101]⟩, .slice none 0 0] w fun e w' => e = .returned (.int .i64 0) ∧ Below w.heap.size w w' := by
  have := point_any 0 ⟨#[116, 105, 116, 108, 101]⟩ w none 0 0 [] (no_attrs w)
  rw [show pt 0 (ByteArray.mk #[116, 105, 116, 108, 101]).toList [] = 0 by rw [Lib.toList_data]; rfl] at this
  exact this
theorem fg_mi (w : World) : Calls Try.prog 11 #[.int .i64 2, .string ⟨#[109, 105]⟩, .slice none 0 0, .agg #[.int .i64 2, .string ⟨#[98]⟩, .slice none 0 0, .bool false, .string ⟨#[]⟩]] w fun e w' => e = .returned (.bool false) ∧ Below w.heap.size w w' := by
  have := foreign_any 2 ⟨#[109, 105]⟩ w none 0 0 [] (no_attrs w) 2 ⟨#[98]⟩ (.slice none 0 0) false ⟨#[]⟩
  rw [show fg 2 (ByteArray.mk #[109, 105]).toList (pt 2 (ByteArray.mk #[109, 105]).toList []) 2 (ByteArray.mk #[98]).toList = false by rw [Lib.toList_data, Lib.toList_data]; decide] at this
  exact this
theorem fg_g (w : World) : Calls Try.prog 11 #[.int .i64 1, .string ⟨#[103]⟩, .slice none 0 0, .agg #[.int .i64 2, .string ⟨#[98]⟩, .slice none 0 0, .bool false, .string ⟨#[]⟩]] w fun e w' => e = .returned (.bool true) ∧ Below w.heap.size w w' := by
  have := foreign_any 1 ⟨#[103]⟩ w none 0 0 [] (no_attrs w) 2 ⟨#[98]⟩ (.slice none 0 0) false ⟨#[]⟩
  rw [show fg 1 (ByteArray.mk #[103]).toList (pt 1 (ByteArray.mk #[103]).toList []) 2 (ByteArray.mk #[98]).toList = true by rw [Lib.toList_data, Lib.toList_data]; decide] at this
  exact this

def boxB : Obj := .cells #[.int .i64 2, .string ⟨#[98]⟩, .slice none 0 0, .bool false, .string ⟨#[]⟩] 24
structure Has (w : World) (B : Nat) : Prop where
  blk : w.heap[B]? = some boxB
theorem Has.below {w w' : World} {B : Nat} (h : Has w B) (hb : Below w.heap.size w w') : Has w' B := ⟨(hb.block B (Array.getElem?_eq_some_iff.1 h.blk).1).trans h.blk⟩
theorem Has.cells {w : World} {B : Nat} (h : Has w B) : w.cell? ⟨B, 0, none⟩ = some (.int .i64 2) ∧ w.cell? ⟨B, 1, none⟩ = some (.string ⟨#[98]⟩) ∧ w.cell? ⟨B, 2, none⟩ = some (.slice none 0 0) ∧ w.cell? ⟨B, 3, none⟩ = some (.bool false) ∧ w.cell? ⟨B, 4, none⟩ = some (.string ⟨#[]⟩) := by
  have := h.blk
  refine ⟨?_, ?_, ?_, ?_, ?_⟩ <;> (unfold World.cell?; simp only [this]; rfl)

set_option maxHeartbeats 1000000 in
theorem shown_any (w : World) : Calls Try.prog 8 #[] w fun e w' => e = .returned (.bool true) ∧ Below w.heap.size w w' := by
  have h0 : Has (w.alloc boxB) w.heap.size := ⟨by show (w.heap.push boxB)[w.heap.size]? = _; simp⟩
  have hb0 : Below w.heap.size w (w.alloc boxB) := (Below.refl _ _).alloc (Nat.le_refl _) _
  have H0 := Lib.hid h0
  have B0 := Lib.hid hb0
  clear h0 hb0
  go_enter Try.func8, Try.ntmps8
  go_wp2_with fail
  refine (pt_title_svg _).mono ?_; rintro e w1 ⟨rfl, hb⟩
  have H1 := Lib.hid (H0.out.below hb)
  have B1 := Lib.hid (B0.out.trans (hb.mono B0.out.size))
  clear hb
  obtain ⟨c0, c1, c2, c3, c4⟩ := H1.out.cells
  go_wp2_with fail
  refine (pt_title_html _).mono ?_; rintro e w2 ⟨rfl, hb⟩
  have H2 := Lib.hid (H1.out.below hb)
  have B2 := Lib.hid (B1.out.trans (hb.mono B1.out.size))
  clear hb
  clear c0 c1 c2 c3 c4
  obtain ⟨c0, c1, c2, c3, c4⟩ := H2.out.cells
  go_wp2_with fail
  refine (fg_mi _).mono ?_; rintro e w3 ⟨rfl, hb⟩
  have H3 := Lib.hid (H2.out.below hb)
  have B3 := Lib.hid (B2.out.trans (hb.mono B2.out.size))
  clear hb
  clear c0 c1 c2 c3 c4
  obtain ⟨c0, c1, c2, c3, c4⟩ := H3.out.cells
  go_wp2_with fail
  refine (fg_g _).mono ?_; rintro e w4 ⟨rfl, hb⟩
  have H4 := Lib.hid (H3.out.below hb)
  have B4 := Lib.hid (B3.out.trans (hb.mono B3.out.size))
  clear hb
  clear c0 c1 c2 c3 c4
  obtain ⟨c0, c1, c2, c3, c4⟩ := H4.out.cells
  go_wp2_with fail
  refine (breaks_b _).mono ?_; rintro e w5 ⟨rfl, hb⟩
  have H5 := Lib.hid (H4.out.below hb)
  have B5 := Lib.hid (B4.out.trans (hb.mono B4.out.size))
  clear hb
  clear c0 c1 c2 c3 c4
  obtain ⟨c0, c1, c2, c3, c4⟩ := H5.out.cells
  go_wp2_with fail
  refine (name_svg _).mono ?_; rintro e w6 ⟨rfl, rfl⟩
  go_wp2_with fail
  refine (name_math _).mono ?_; rintro e w6 ⟨rfl, rfl⟩
  go_wp2
  go_ret
  exact ⟨rfl, B5.out⟩
end Go.Proofs.Ytopmahhlebkjiaa
