/- Every All and Escape: the walk. -/
import Derived.Test.YtpepoccoljmmjaaRV
set_option linter.unusedVariables false
namespace Go.Proofs.Ytpepoccoljmmjaa
open Go.RowKit Go.Shelf

set_option maxRecDepth 10000 in
set_option maxHeartbeats 8000000 in
theorem all_walk (X : ByteArray) (q : Bool) (w : World) (hm : MaxLen w) (hs : X.size ≤ 1048576) :
    Calls Try.prog 5 #[.string X, .bool q] w fun e w' => e = .returned (.bool true) ∧ Below w.heap.size w w' := by
  have hsh := shown_any w hm
  have hll := len_data X
  have hl1 := alls_len q X.data.toList
  have hl2 := esc_len q X.data.toList
  have hf := fun wx => all_any X q wx (by omega) (by omega)
  have hr := fun wx => rall_any X q wx (by omega) (by omega)
  have hn := fun wx => escape_any X q wx (by omega) (by omega)
  have hrn := fun wx => rescape_any X q wx (by omega) (by omega)
  generalize bs (alls q X.data.toList) = T at hf hr
  generalize bs (esc q X.data.toList) = M at hn hrn
  have HSH := Lib.hid hsh
  have HF := Lib.hid hf
  have HR := Lib.hid hr
  have HN := Lib.hid hn
  have HRN := Lib.hid hrn
  clear hsh hf hr hn hrn hm hl1 hl2 hll
  go_enter Try.func5, Try.ntmps5
  go_wp2_with fail
  refine HSH.out.mono ?_; rintro e w1 ⟨rfl, hb⟩
  have HB := Lib.hid hb
  clear hb
  go_wp2_with fail
  refine (HF.out _).mono ?_; rintro e w2 ⟨rfl, hb⟩
  have HB2 := Lib.hid (HB.out.trans (hb.mono HB.out.size))
  clear hb
  go_wp2_with fail
  refine (HR.out _).mono ?_; rintro e w3 ⟨rfl, hb⟩
  have HB3 := Lib.hid (HB2.out.trans (hb.mono HB2.out.size))
  clear hb
  go_wp2_with fail
  refine (HN.out _).mono ?_; rintro e w4 ⟨rfl, hb⟩
  have HB4 := Lib.hid (HB3.out.trans (hb.mono HB3.out.size))
  clear hb
  go_wp2_with fail
  refine (HRN.out _).mono ?_; rintro e w5 ⟨rfl, hb⟩
  have HB5 := Lib.hid (HB4.out.trans (hb.mono HB4.out.size))
  clear hb
  go_wp2
  go_ret
  exact ⟨rfl, HB5.out⟩
end Go.Proofs.Ytpepoccoljmmjaa
