/- LexQuotes. -/
import Derived.Test.YtlbempnhpcofmaaDoorX
set_option linter.unusedVariables false
namespace Go.Proofs.YtlbempnhpcofmaaDoor
open Go.RowKit

set_option maxHeartbeats 8000000 in
theorem lexQuotes_any (X : ByteArray) (w : World) (hx : X.size ≤ 35184372088832) :
    Calls Tryd.prog 4 #[.string X] w fun e w' => e = .returned (.bool true) ∧ Below w.heap.size w w' := by
  have H0 := Lib.hid fun wx => shown_any wx
  have h1 := fun wx => quote_any X wx hx
  have h2 := fun wx => rQuote_any X wx hx
  generalize (ByteArray.mk (quote X.data.toList).toArray) = Q at h1 h2
  have h3 := fun wx => unquote_any X wx hx
  have h4 := fun wx => rUnquote_any X wx hx
  have H1 := Lib.hid h1
  have H2 := Lib.hid h2
  have hcase : ∃ (A : ByteArray) (n c : Int), (∀ wx, Calls Tryd.prog 19 #[.string X] wx fun e w' => e = .returned (.tuple #[.string A, .int .i64 n, .int .i64 c]) ∧ Below wx.heap.size wx w') ∧ (∀ wx, Calls Tryd.prog 20 #[.string X] wx fun e w' => e = .returned (.tuple #[.string A, .int .i64 n, .int .i64 c]) ∧ Below wx.heap.size wx w') := by
    cases hu : unq X.data.toList with
    | none => rw [hu] at h3 h4; exact ⟨_, _, _, h3, h4⟩
    | some x => rw [hu] at h3 h4; exact ⟨_, _, _, h3, h4⟩
  obtain ⟨A, n, c, h5, h6⟩ := hcase
  have H5 := Lib.hid h5
  have H6 := Lib.hid h6
  clear h1 h2 h3 h4 h5 h6
  go_enter Tryd.func4, Tryd.ntmps4
  go_wp2_with fail
  refine (H0.out _).mono ?_; rintro e w0 ⟨rfl, hb⟩
  have B0 := Lib.hid hb
  clear hb
  go_wp2_with fail
  refine (H5.out _).mono ?_; rintro e w1 ⟨rfl, hb⟩
  have B1 := Lib.hid (B0.out.trans (hb.mono B0.out.size))
  clear hb
  go_wp2_with fail
  refine (H6.out _).mono ?_; rintro e w2 ⟨rfl, hb⟩
  have B2 := Lib.hid (B1.out.trans (hb.mono B1.out.size))
  clear hb
  go_wp2_with fail
  refine (H1.out _).mono ?_; rintro e w3 ⟨rfl, hb⟩
  have B3 := Lib.hid (B2.out.trans (hb.mono B2.out.size))
  clear hb
  go_wp2_with fail
  refine (H2.out _).mono ?_; rintro e w4 ⟨rfl, hb⟩
  have B4 := Lib.hid (B3.out.trans (hb.mono B3.out.size))
  clear hb
  go_wp2
  go_ret
  exact ⟨rfl, B4.out⟩
end Go.Proofs.YtlbempnhpcofmaaDoor
