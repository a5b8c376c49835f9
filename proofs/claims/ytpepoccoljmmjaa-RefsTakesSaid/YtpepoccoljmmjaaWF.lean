/- The longest name is found; a reference is taken as far as it goes: the walks. -/
import Derived.Test.YtpepoccoljmmjaaRU
import Derived.Deep.RegionHeld3
set_option linter.unusedVariables false
namespace Go.Proofs.Ytpepoccoljmmjaa
open Go.RowKit Go.Shelf

set_option maxRecDepth 10000 in
set_option maxHeartbeats 8000000 in
theorem finds_walk (X : ByteArray) (n : Int) (w : World) (hm : MaxLen w) (hs : X.size ≤ 140737488355328) :
    Calls Try.prog 3 #[.string X, .int .i64 n] w fun e w' => e = .returned (.bool true) ∧ Below w.heap.size w w' := by
  have hsh := shown_any w hm
  have hf := fun wx => find_any X wx (by omega)
  have hr := fun wx => rfind_any X wx (by omega)
  have hn := fun wx => number_any n wx
  have hrn := fun wx => rnumber_any n wx
  generalize bs (fnd X.data.toList).1 = T at hf hr
  generalize (fnd X.data.toList).2 = k at hf hr
  generalize bs (numC n) = M at hn hrn
  have HSH := Lib.hid hsh
  have HF := Lib.hid hf
  have HR := Lib.hid hr
  have HN := Lib.hid hn
  have HRN := Lib.hid hrn
  clear hsh hf hr hn hrn hm
  go_enter Try.func3, Try.ntmps3
  go_wp2_with fail
  refine HSH.out.mono ?_; rintro e w1 ⟨rfl, hb⟩
  have HB := Lib.hid hb
  clear hb
  go_wp2_with fail
  refine (HF.out _).mono ?_; rintro e w2 ⟨rfl, rfl⟩
  go_wp2_with fail
  refine (HR.out _).mono ?_; rintro e w2 ⟨rfl, hb⟩
  have HB2 := Lib.hid (HB.out.trans (hb.mono HB.out.size))
  clear hb
  go_wp2_with fail
  refine (HN.out _).mono ?_; rintro e w3 ⟨rfl, hb⟩
  have HB3 := Lib.hid (HB2.out.trans (hb.mono HB2.out.size))
  clear hb
  go_wp2_with fail
  refine (HRN.out _).mono ?_; rintro e w4 ⟨rfl, hb⟩
  have HB4 := Lib.hid (HB3.out.trans (hb.mono HB3.out.size))
  clear hb
  go_wp2
  go_ret
  exact ⟨rfl, HB4.out⟩

set_option maxRecDepth 10000 in
set_option maxHeartbeats 8000000 in
theorem takes_walk (X : ByteArray) (q : Bool) (w : World) (hm : MaxLen w) (hs : X.size ≤ 140737488355328) :
    Calls Try.prog 4 #[.string X, .bool q] w fun e w' => e = .returned (.bool true) ∧ Below w.heap.size w w' := by
  have hsh := shown_any w hm
  have hf := fun wx => take_any X q wx (by omega)
  have hr := fun wx => rtake_any X q wx (by omega)
  have hn := fun wx (h : MaxLen wx) => more_any X wx (by omega) h
  have hrn := fun wx => rmore_any X wx (by omega)
  generalize bs (tk q X.data.toList).1 = T at hf hr
  generalize (tk q X.data.toList).2 = k at hf hr
  generalize more X.data.toList = M at hn hrn
  have HSH := Lib.hid hsh
  have HF := Lib.hid hf
  have HR := Lib.hid hr
  have HRN := Lib.hid hrn
  have HM := Lib.hid hm
  have HN : Hid (∀ wx, (Below w.heap.size w wx ∧ MaxLen wx) → Calls Try.prog 19 #[.string X] wx fun e w' => e = .returned (.bool M) ∧ Below wx.heap.size wx w') := Lib.hid fun wx h => (hn wx h.2).mono fun e w' h => ⟨h.1, by rw [← h.2]; exact Below.refl _ _⟩
  clear hsh hf hr hn hrn hm
  go_enter Try.func4, Try.ntmps4
  go_wp2_with fail
  refine HSH.out.mono ?_; rintro e w1 ⟨rfl, hb⟩
  have HB := Lib.hid hb
  clear hb
  go_wp2_with fail
  refine (HF.out _).mono ?_; rintro e w2 ⟨rfl, hb⟩
  have HB2 := Lib.hid (HB.out.trans (hb.mono HB.out.size))
  clear hb
  go_wp2_with fail
  refine (HR.out _).mono ?_; rintro e w3 ⟨rfl, hb⟩
  have HB3 := Lib.hid (HB2.out.trans (hb.mono HB2.out.size))
  clear hb
  have HM3 := Lib.hid (HM.out.below HB3.out)
  go_wp2_with fail
  refine (HN.out _ ⟨HB3.out, HM3.out⟩).mono ?_; rintro e w4 ⟨rfl, hb⟩
  have HB4 := Lib.hid (HB3.out.trans (hb.mono HB3.out.size))
  clear hb
  go_wp2_with fail
  refine (HRN.out _).mono ?_; rintro e w5 ⟨rfl, hb⟩
  have HB5 := Lib.hid (HB4.out.trans (hb.mono HB4.out.size))
  clear hb
  go_wp2
  go_ret
  exact ⟨rfl, HB5.out⟩
end Go.Proofs.Ytpepoccoljmmjaa
