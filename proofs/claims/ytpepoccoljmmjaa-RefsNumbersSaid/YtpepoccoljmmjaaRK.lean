/- The document's examples of references. -/
import Derived.Test.YtpepoccoljmmjaaRJ
set_option linter.unusedVariables false
namespace Go.Proofs.Ytpepoccoljmmjaa
open Go.RowKit Go.Shelf

theorem ex_tk : tk false [38, 35, 120, 56, 48, 122] = ([226, 130, 172], 5) := by decide +kernel
theorem ex_fnd : fnd [110, 111, 116, 105, 116] = ([194, 172], 3) := by decide +kernel
theorem ex_alls : alls false [97, 38, 97, 109, 112, 59, 38, 108, 116, 32, 98, 38, 120] = [97, 38, 60, 32, 98, 38, 120] := by decide +kernel
theorem ex_more1 : more [38, 110, 111] = true := by decide +kernel
theorem ex_more2 : more [38, 97, 109, 112, 120] = false := by decide +kernel
theorem ex_esc : esc true [60, 34] = [38, 108, 116, 59, 38, 113, 117, 111, 116, 59] := by decide +kernel
theorem ex_num : numC 0 = [239, 191, 189] := by decide +kernel

set_option maxRecDepth 10000 in
set_option maxHeartbeats 4000000 in
theorem shown_any (w : World) (hm : MaxLen w) : Calls Try.prog 12 #[] w fun e w' => e = .returned (.bool true) ∧ Below w.heap.size w w' := by
  have h1 : ∀ w, Calls Try.prog 17 #[.string ⟨#[38, 35, 120, 56, 48, 122]⟩, .bool false] w fun e w' => e = .returned (.tuple #[.string ⟨#[226, 130, 172]⟩, .int .i64 5]) ∧ Below w.heap.size w w' := fun w => by
    have := take_any ⟨#[38, 35, 120, 56, 48, 122]⟩ false w (by decide)
    rw [show (⟨#[38, 35, 120, 56, 48, 122]⟩ : ByteArray).data.toList = [38, 35, 120, 56, 48, 122] from rfl, ex_tk] at this
    exact this
  have h2 : ∀ w, Calls Try.prog 13 #[.string ⟨#[110, 111, 116, 105, 116]⟩] w fun e w' => e = .returned (.tuple #[.string ⟨#[194, 172]⟩, .int .i64 3]) ∧ w = w' := fun w => by
    have := find_any ⟨#[110, 111, 116, 105, 116]⟩ w (by decide)
    rw [show (⟨#[110, 111, 116, 105, 116]⟩ : ByteArray).data.toList = [110, 111, 116, 105, 116] from rfl, ex_fnd] at this
    exact this
  have h3 : ∀ w, Calls Try.prog 21 #[.string ⟨#[97, 38, 97, 109, 112, 59, 38, 108, 116, 32, 98, 38, 120]⟩, .bool false] w fun e w' => e = .returned (.string ⟨#[97, 38, 60, 32, 98, 38, 120]⟩) ∧ Below w.heap.size w w' := fun w => by
    have := all_any ⟨#[97, 38, 97, 109, 112, 59, 38, 108, 116, 32, 98, 38, 120]⟩ false w (by decide)
    rw [show (⟨#[97, 38, 97, 109, 112, 59, 38, 108, 116, 32, 98, 38, 120]⟩ : ByteArray).data.toList = [97, 38, 97, 109, 112, 59, 38, 108, 116, 32, 98, 38, 120] from rfl, ex_alls] at this
    exact this (by decide)
  have h4 : ∀ w, MaxLen w → Calls Try.prog 19 #[.string ⟨#[38, 110, 111]⟩] w fun e w' => e = .returned (.bool true) ∧ w = w' := fun w hm => by
    have := more_any ⟨#[38, 110, 111]⟩ w (by decide) hm
    rw [show (⟨#[38, 110, 111]⟩ : ByteArray).data.toList = [38, 110, 111] from rfl, ex_more1] at this
    exact this
  have h5 : ∀ w, MaxLen w → Calls Try.prog 19 #[.string ⟨#[38, 97, 109, 112, 120]⟩] w fun e w' => e = .returned (.bool false) ∧ w = w' := fun w hm => by
    have := more_any ⟨#[38, 97, 109, 112, 120]⟩ w (by decide) hm
    rw [show (⟨#[38, 97, 109, 112, 120]⟩ : ByteArray).data.toList = [38, 97, 109, 112, 120] from rfl, ex_more2] at this
    exact this
  have h6 : ∀ w, Calls Try.prog 23 #[.string ⟨#[60, 34]⟩, .bool true] w fun e w' => e = .returned (.string ⟨#[38, 108, 116, 59, 38, 113, 117, 111, 116, 59]⟩) ∧ Below w.heap.size w w' := fun w => by
    have := escape_any ⟨#[60, 34]⟩ true w (by decide)
    rw [show (⟨#[60, 34]⟩ : ByteArray).data.toList = [60, 34] from rfl, ex_esc] at this
    exact this (by decide)
  have h7 : ∀ w, Calls Try.prog 15 #[.int .i64 0] w fun e w' => e = .returned (.string ⟨#[239, 191, 189]⟩) ∧ Below w.heap.size w w' := fun w => by
    have := number_any 0 w
    rw [ex_num] at this
    exact this
  have H1 := Lib.hid h1
  have H2 := Lib.hid h2
  have H3 := Lib.hid h3
  have H4 := Lib.hid h4
  have H5 := Lib.hid h5
  have H6 := Lib.hid h6
  have H7 := Lib.hid h7
  have HM := Lib.hid hm
  clear h1 h2 h3 h4 h5 h6 h7 hm
  go_enter Try.func12, Try.ntmps12
  go_wp2_with fail
  refine (H1.out _).mono ?_; rintro e w1 ⟨rfl, hb⟩
  have HB := Lib.hid hb
  have HM1 := Lib.hid (HM.out.below hb)
  clear hb
  go_wp2_with fail
  refine (H2.out _).mono ?_; rintro e w2 ⟨rfl, rfl⟩
  go_wp2_with fail
  refine (H3.out _).mono ?_; rintro e w3 ⟨rfl, hb⟩
  have HB3 := Lib.hid (HB.out.trans (hb.mono HB.out.size))
  have HM3 := Lib.hid (HM1.out.below hb)
  clear hb
  go_wp2_with fail
  refine (H4.out _ HM3.out).mono ?_; rintro e w2 ⟨rfl, rfl⟩
  go_wp2_with fail
  refine (H5.out _ HM3.out).mono ?_; rintro e w2 ⟨rfl, rfl⟩
  go_wp2_with fail
  refine (H6.out _).mono ?_; rintro e w6 ⟨rfl, hb⟩
  have HB6 := Lib.hid (HB3.out.trans (hb.mono HB3.out.size))
  clear hb
  go_wp2_with fail
  refine (H7.out _).mono ?_; rintro e w7 ⟨rfl, hb⟩
  have HB7 := Lib.hid (HB6.out.trans (hb.mono HB6.out.size))
  clear hb
  go_wp2
  go_ret
  exact ⟨rfl, HB7.out⟩
end Go.Proofs.Ytpepoccoljmmjaa
