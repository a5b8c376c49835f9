/- The document's examples of bytes that are characters. -/
import Derived.Test.YtagmjbjgphhlcaaDoorLI
set_option linter.unusedVariables false
namespace Go.Proofs.YtagmjbjgphhlcaaDoor
open Go.RowKit

theorem byte_ex (r v : Int) (b : Bool) (h : BytIs r v b) (hlo : -2147483648 ≤ r) (hhi : r ≤ 2147483647) (w : World) :
    Calls Tryd.prog 11 #[.int .i32 r] w fun e w' => e = .returned (.tuple #[.int .u8 v, .bool b]) ∧ Below w.heap.size w w' := by
  obtain ⟨rfl, rfl⟩ := h
  exact byte_any r w hlo hhi
theorem ex1 : BytIs 8364 128 true := bytIs_some (c := 128) (by omega) (by decide)
theorem ex2 : BytIs 128 0 false := by unfold BytIs; decide +kernel
theorem ex3 : labOf (wordOf [32, 76, 97, 116, 105, 110, 49]) = 2 := by decide +kernel
theorem ex4 : dcd [147] = [226, 128, 156] := by decide +kernel

set_option maxHeartbeats 2000000 in
theorem shown_any (w : World) : Calls Tryd.prog 10 #[] w fun e w' => e = .returned (.bool true) ∧ Below w.heap.size w w' := by
  have h3 : ∀ wx, Calls Tryd.prog 13 #[.int .u8 128] wx fun e w' => e = .returned (.int .i32 8364) ∧ Below wx.heap.size wx w' := fun wx => char_any 128 (by omega) wx
  have h4 : ∀ wx, Calls Tryd.prog 20 #[.string ⟨#[32, 76, 97, 116, 105, 110, 49]⟩] wx fun e w' => e = .returned (.int .i64 2) ∧ Below wx.heap.size wx w' := fun wx => by
    have := label_any ⟨#[32, 76, 97, 116, 105, 110, 49]⟩ wx (by decide)
    rw [show labOf (wordOf (ByteArray.mk #[32, 76, 97, 116, 105, 110, 49]).data.toList) = 2 from ex3] at this
    exact this
  have h5 : ∀ (C : Array Value) (wx : World), C = (Lib.byteCells [147]).toArray → Calls Tryd.prog 15 #[.slice (some ⟨wx.heap.size, 0, none⟩) 1 1] (wx.alloc (.cells C 5)) fun e w' => e = .returned (.string ⟨#[226, 128, 156]⟩) ∧ Below wx.heap.size wx w' := fun C wx hC => by
    subst hC
    refine (ldecode_any _ 1 [147] _ (lit_src [147] wx (by simp)) (by simp)).mono ?_; rintro e w' ⟨rfl, hb⟩
    rw [ex4]
    exact ⟨rfl, ((Below.refl _ _).alloc (Nat.le_refl _) _).trans (hb.mono (by simp))⟩
  have h1 := fun wx => byte_ex _ _ _ ex1 (by omega) (by omega) wx
  have h2 := fun wx => byte_ex _ _ _ ex2 (by omega) (by omega) wx
  have H1 := Lib.hid h1
  have H2 := Lib.hid h2
  have H3 := Lib.hid h3
  have H4 := Lib.hid h4
  have H5 := Lib.hid h5
  clear h1 h2 h3 h4 h5
  go_enter Tryd.func10, Tryd.ntmps10
  go_wp2_with fail
  refine (H1.out _).mono ?_; rintro e w1 ⟨rfl, hb⟩
  have B1 := Lib.hid hb
  clear hb
  go_wp2_with fail
  refine (H2.out _).mono ?_; rintro e w2 ⟨rfl, hb⟩
  have B2 := Lib.hid (B1.out.trans (hb.mono B1.out.size))
  clear hb
  go_wp2_with fail
  refine (H3.out _).mono ?_; rintro e w3 ⟨rfl, hb⟩
  have B3 := Lib.hid (B2.out.trans (hb.mono B2.out.size))
  clear hb
  go_wp2_with fail
  refine (H4.out _).mono ?_; rintro e w4 ⟨rfl, hb⟩
  have B4 := Lib.hid (B3.out.trans (hb.mono B3.out.size))
  clear hb
  go_wp2_with fail
  refine (H5.out _ _ rfl).mono ?_; rintro e w5 ⟨rfl, hb⟩
  have B5 := Lib.hid (B4.out.trans (hb.mono B4.out.size))
  clear hb
  go_wp2
  go_ret
  exact ⟨rfl, B5.out⟩
end Go.Proofs.YtagmjbjgphhlcaaDoor
