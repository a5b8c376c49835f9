/- LexWords. -/
import Derived.Test.YtlbempnhpcofmaaDoorVA
set_option linter.unusedVariables false
namespace Go.Proofs.YtlbempnhpcofmaaDoor
open Go.RowKit

set_option maxHeartbeats 8000000 in
theorem lexWords_any (X Y : ByteArray) (w : World) (hx : X.size ≤ 9223372036854775807) (hy : Y.size ≤ 9223372036854775807) :
    Calls Tryd.prog 3 #[.string X, .string Y] w fun e w' => e = .returned (.bool true) ∧ Below w.heap.size w w' := by
  have H0 := Lib.hid fun wx => shown_any wx
  have h1 := fun wx => token_any X wx hx
  have h2 := fun wx => rToken_any X wx hx
  generalize isTok X.data.toList = b1 at h1 h2
  have h3 := fun wx => lower_any X wx hx
  have h4 := fun wx => rLower_any X wx hx
  have h5 := fun wx => same_any X Y wx hx hy
  have h6 := fun wx => rSame_any X Y wx hx hy
  generalize decide (X.data.toList.map lwr = Y.data.toList.map lwr) = b2 at h5 h6
  generalize (ByteArray.mk (X.data.toList.map lwr).toArray) = L at h3 h4
  have h7 := fun wx => trim_any X wx hx
  have h8 := fun wx => rTrim_any X wx hx
  generalize (ByteArray.mk (trim X.data.toList).toArray) = T at h7 h8
  have H1 := Lib.hid h1
  have H2 := Lib.hid h2
  have H3 := Lib.hid h3
  have H4 := Lib.hid h4
  have H5 := Lib.hid h5
  have H6 := Lib.hid h6
  have H7 := Lib.hid h7
  have H8 := Lib.hid h8
  clear h1 h2 h3 h4 h5 h6 h7 h8
  go_enter Tryd.func3, Tryd.ntmps3
  go_wp2_with fail
  refine (H0.out _).mono ?_; rintro e w0 ⟨rfl, hb⟩
  have B0 := Lib.hid hb
  clear hb
  go_wp2_with fail
  refine (H1.out _).mono ?_; rintro e w1 ⟨rfl, rfl⟩
  go_wp2_with fail
  refine (H2.out _).mono ?_; rintro e w1 ⟨rfl, rfl⟩
  go_wp2_with fail
  refine (H3.out _).mono ?_; rintro e w1 ⟨rfl, hb⟩
  have B1 := Lib.hid (B0.out.trans (hb.mono B0.out.size))
  clear hb
  go_wp2_with fail
  refine (H4.out _).mono ?_; rintro e w2 ⟨rfl, hb⟩
  have B2 := Lib.hid (B1.out.trans (hb.mono B1.out.size))
  clear hb
  go_wp2_with fail
  refine (H5.out _).mono ?_; rintro e w3 ⟨rfl, hb⟩
  have B3 := Lib.hid (B2.out.trans (hb.mono B2.out.size))
  clear hb
  go_wp2_with fail
  refine (H6.out _).mono ?_; rintro e w4 ⟨rfl, hb⟩
  have B4 := Lib.hid (B3.out.trans (hb.mono B3.out.size))
  clear hb
  go_wp2_with fail
  refine (H7.out _).mono ?_; rintro e w5 ⟨rfl, hb⟩
  have B5 := Lib.hid (B4.out.trans (hb.mono B4.out.size))
  clear hb
  go_wp2_with fail
  refine (H8.out _).mono ?_; rintro e w6 ⟨rfl, rfl⟩
  go_wp2
  go_ret
  exact ⟨rfl, B5.out⟩
end Go.Proofs.YtlbempnhpcofmaaDoor
