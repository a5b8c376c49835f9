/- The document's examples of characters. -/
import Derived.Test.YtagmjbjgphhlcaaDoorE
set_option linter.unusedVariables false
namespace Go.Proofs.YtagmjbjgphhlcaaDoor
open Go.RowKit

theorem dec_ex : dec [226, 130, 65] = [239, 191, 189, 65] := by
  rw [dec_cons _ (by decide), show pc [226, 130, 65] = (2, false) by decide]
  simp only [Bool.false_eq_true, if_false, List.drop_succ_cons, List.drop_zero]
  rw [dec_cons _ (by decide), show pc [65] = (1, true) by decide]
  simp [dec_nil, fffd]
theorem rns_ex : rns [244, 143, 191, 191] = [1114111] := by
  rw [rns_cons _ (by decide), show pc [244, 143, 191, 191] = (4, true) by decide]
  simp only [if_true, List.drop_succ_cons, List.drop_zero, List.take_succ_cons, List.take_zero]
  rw [rns_nil, show val [244, 143, 191, 191] = 1114111 by decide]
theorem encs_ex : encs [8364, -1] = [226, 130, 172, 239, 191, 189] := by decide
theorem flt_ex : flt [65, 226] = 1 := by
  rw [flt_cons _ (by decide), show pc [65, 226] = (1, true) by decide]
  simp only [if_true, List.drop_succ_cons, List.drop_zero]
  rw [flt_cons _ (by decide), show pc [226] = (1, false) by decide]
  simp

theorem lit_bytes (l : List UInt8) (wx : World) : Bytes (wx.alloc (.cells (Lib.byteCells l).toArray 5)) (some ⟨wx.heap.size, 0, none⟩) l := by
  refine .inr ⟨_, _, rfl, by simp, ?_⟩
  intro j hj
  have hb : (wx.alloc (.cells (Lib.byteCells l).toArray 5)).heap[wx.heap.size]? = some (.cells (Lib.byteCells l).toArray 5 (0, 0)) := by
    show (wx.heap.push _)[wx.heap.size]? = _; simp
  rw [Lib.cell_of_heap hb]
  simp [Lib.byteCells, hj]
theorem lit_nums (l : List Int) (wx : World) : Nums (wx.alloc (.cells (l.map (Value.int .i32)).toArray 21)) (some ⟨wx.heap.size, 0, none⟩) l := by
  intro j hj
  have hb : (wx.alloc (.cells (l.map (Value.int .i32)).toArray 21)).heap[wx.heap.size]? = some (.cells (l.map (Value.int .i32)).toArray 21 (0, 0)) := by
    show (wx.heap.push _)[wx.heap.size]? = _; simp
  refine ⟨_, _, rfl, by simp, ?_⟩
  rw [Lib.cell_of_heap hb]
  simp [hj]

theorem own_one {w : World} {base n : Nat} {e : TypeId} {v x : Value} {r : List Value} (h : w.ownsRow base e 1 v n (x :: r)) : ∃ g cap, v = .slice (some ⟨g, 0, none⟩) n cap ∧ w.cell? ⟨g, 0, none⟩ = some x ∧ g < w.heap.size ∧ n ≤ cap := by
  have hlen := h.1
  rcases h.2 with ⟨_, h0⟩ | ⟨g, cap, cur, rfl, hb, hg, hn, _⟩
  · simp only [List.length_cons] at hlen; omega
  · refine ⟨g, cap, rfl, ?_, (Array.getElem?_eq_some_iff.1 hg).1, hn⟩
    have := h.cells (g := g) rfl 0 x (by simp)
    simpa [Addr.add] using this

end Go.Proofs.YtagmjbjgphhlcaaDoor
