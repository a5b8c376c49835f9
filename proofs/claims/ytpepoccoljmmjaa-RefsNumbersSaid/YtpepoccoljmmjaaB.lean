/- A row of bytes. -/
import Derived.Test.YtpepoccoljmmjaaA
import Derived.Test.YtpepoccoljmmjaaChecked
import Derived.WalkKit
import Derived.WalkSpells
import Derived.WalkLawsBesides
import Derived.WalkSmall
import Derived.Lib.Hide
import Derived.Deep.QuietTactic
import Derived.BigQuiet
import Derived.Laws.CopyOwn
set_option linter.unusedVariables false
namespace Go.Proofs.Ytpepoccoljmmjaa
open Go.RowKit

theorem ret_int {k : IntKind} {a b : Int} (h : a = b) : Ending.returned (.int k a) = .returned (.int k b) := by rw [h]

theorem ret_ib {a b : Int} {p q : Bool} (h : a = b) (h2 : p = q) : Ending.returned (.tuple #[.int .i64 a, .bool p]) = .returned (.tuple #[.int .i64 b, .bool q]) := by rw [h, h2]

/-- a row of bytes at a place -/
def Row (w : World) (b o : Nat) (l : List UInt8) : Prop := ∀ j (h : j < l.length), w.cell? ⟨b, o + j, none⟩ = some (.int .u8 l[j].toNat)

theorem Row.drop {w : World} {b o : Nat} {l : List UInt8} (h : Row w b o l) (k : Nat) : Row w b (o + k) (l.drop k) := by
  intro j hj
  have hj' : j < l.length - k := by simpa using hj
  have := h (k + j) (by omega)
  rw [Nat.add_assoc, this]; simp

theorem Row.take {w : World} {b o : Nat} {l : List UInt8} (h : Row w b o l) (k : Nat) : Row w b o (l.take k) := by
  intro j hj
  have hj' : j < min k l.length := by simpa using hj
  rw [h j (by omega)]; simp

theorem Row.below {w w' : World} {b o B : Nat} {l : List UInt8} (h : Row w b o l) (hb : Below B w w') (hlt : b < B) : Row w' b o l :=
  fun j hj => (hb.cell (p := ⟨b, o + j, none⟩) hlt).trans (h j hj)

theorem Row.lt {w : World} {b o : Nat} {l : List UInt8} (h : Row w b o l) (hl : l ≠ []) : b < w.heap.size := by
  have h0 := h 0 (by cases l; contradiction; simp)
  rcases Nat.lt_or_ge b w.heap.size with h' | h'
  · exact h'
  · unfold World.cell? at h0
    simp [Array.getElem?_eq_none h'] at h0

end Go.Proofs.Ytpepoccoljmmjaa
