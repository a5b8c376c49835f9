/- How a body ends: small laws. -/
import Derived.Test.YtkadingpmebjbaaDoorQH
set_option linter.unusedVariables false
namespace Go.Proofs.YtkadingpmebjbaaDoor
open Go.RowKit

theorem box_at {w w2 : World} {cs : Array Value} {t : TypeId} (h : Below (w.alloc (.cells cs t)).heap.size (w.alloc (.cells cs t)) w2) (j : Nat) : w2.cell? ⟨w.heap.size, j, none⟩ = cs[j]? := (res_cells w w2 cs t h j).1.1
theorem box_next {w w2 w3 : World} {o : Obj} (h : Below w.heap.size w w2) (h2 : Below (w2.alloc o).heap.size (w2.alloc o) w3) : Below w.heap.size w w3 := app_below h (one_below _ _ _ h2)

def cl1 : ByteArray := ⟨#[67, 111, 110, 116, 101, 110, 116, 45, 76, 101, 110, 103, 116, 104]⟩
theorem allF_app (a b : AL) (X : ByteArray) : allF (a ++ b) X = allF a X ++ allF b X := by unfold allF; simp
theorem allF_one (p : ByteArray × ByteArray) (X : ByteArray) : allF [p] X = if sameB p.1 X = true then [p.2] else [] := by
  unfold allF
  cases h : sameB p.1 X <;> simp [h]
end Go.Proofs.YtkadingpmebjbaaDoor
