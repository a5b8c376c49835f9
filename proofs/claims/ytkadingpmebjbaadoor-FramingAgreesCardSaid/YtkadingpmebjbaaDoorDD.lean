/- Decimal, the program's and the document's. -/
import Derived.Test.YtkadingpmebjbaaDoorDC
namespace Go.Proofs.YtkadingpmebjbaaDoor.Num
open Go.RowKit

theorem decimal_any (s : ByteArray) (w : World) (hs : s.size ≤ maxLen) :
    Calls Tryd.prog 92 #[.string s] w fun e w' => e = .returned (.tuple #[.int .i64 (meant 10 s.data.toList).1, .int .i64 (meant 10 s.data.toList).2]) ∧ w = w' := by
  go_enter Tryd.func92, Tryd.ntmps92
  go_wp2_with (go_at_call 100; refine (read10 _ _ hs).mono ?_; rintro e w' ⟨rfl, rfl⟩)
  go_ret2
  exact ⟨rfl, rfl⟩
theorem refdecimal_any (s : ByteArray) (w : World) (hs : s.size ≤ maxLen) :
    Calls Tryd.prog 93 #[.string s] w fun e w' => e = .returned (.tuple #[.int .i64 (meant 10 s.data.toList).1, .int .i64 (meant 10 s.data.toList).2]) ∧ w = w' := by
  go_enter Tryd.func93, Tryd.ntmps93
  go_wp2_with (go_at_call 101; refine (ref10 _ _ hs).mono ?_; rintro e w' ⟨rfl, rfl⟩)
  go_ret2
  exact ⟨rfl, rfl⟩
end Go.Proofs.YtkadingpmebjbaaDoor.Num
