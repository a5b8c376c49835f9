/- Decimal, the program's and the document's. -/
import Derived.Test.YthkgaaibhjkngaaGreatDoorDC
namespace Go.Proofs.YthkgaaibhjkngaaGreatDoor.Num
open Go.RowKit

theorem decimal_any (s : ByteArray) (w : World) (hs : s.size ≤ maxLen) :
    Calls Tryz.prog 107 #[.string s] w fun e w' => e = .returned (.tuple #[.int .i64 (meant 10 s.data.toList).1, .int .i64 (meant 10 s.data.toList).2]) ∧ w = w' := by
  go_enter Tryz.func107, Tryz.ntmps107
  go_wp2_with (go_at_call 128; refine (read10 _ _ hs).mono ?_; rintro e w' ⟨rfl, rfl⟩)
  go_ret2
  exact ⟨rfl, rfl⟩

end Go.Proofs.YthkgaaibhjkngaaGreatDoor.Num
