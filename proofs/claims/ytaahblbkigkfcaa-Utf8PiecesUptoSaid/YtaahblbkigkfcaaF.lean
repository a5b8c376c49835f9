/- The document's examples of characters. -/
import Derived.Test.YtaahblbkigkfcaaE
set_option linter.unusedVariables false
namespace Go.Proofs.Ytaahblbkigkfcaa
open Go.RowKit

theorem dec_ex : dec [226, 130, 65] = [239, 191, 189, 65] := by
  rw [dec_cons _ (by decide), show pc [226, 130, 65] = (2, false) by decide]
  simp only [Bool.false_eq_true, if_false, List.drop_succ_cons, List.drop_zero]
  rw [dec_cons _ (by decide), show pc [65] = (1, true) by decide]
  simp [dec_nil, fffd]
theorem rns_ex : rns [244, 143, 191, 191] = [1114111] := by
  rw [rns_cons _ (by decide), show pc [244, 143, 191, 191] = (4, true) by decide]
  simp only [if_true, List.drop_succ_cons, List.drop_zero, List.take_succ_cons, List.take_zero]
  rw [rns_nil, show val [244, 143, 191, 191] = 1114111 by decide]
theorem encs_ex : encs [8364, -1] = [226, 130, 172, 239, 191, 189] := by decide
theorem flt_ex : flt [65, 226] = 1 := by
  rw [flt_cons _ (by decide), show pc [65, 226] = (1, true) by decide]
  simp only [if_true, List.drop_succ_cons, List.drop_zero]
  rw [flt_cons _ (by decide), show pc [226] = (1, false) by decide]
  simp

theorem lit_bytes (l : List UInt8) (wx : World) : Bytes (wx.alloc (.cells (Lib.byteCells l).toArray 5)) (some ⟨wx.heap.size, 0, none⟩) l := by
  refine .inr ⟨_, _, rfl, by simp, ?_⟩
  intro j hj
  have hb : (wx.alloc (.cells (Lib.byteCells l).toArray 5)).heap[wx.heap.size]? = some (.cells (Lib.byteCells l).toArray 5 (0, 0)) := by
    show (wx.heap.push _)[wx.heap.size]? = _; simp
  rw [Lib.cell_of_heap hb]
  simp [Lib.byteCells, hj]
theorem lit_nums (l : List Int) (wx : World) : Nums (wx.alloc (.cells (l.map (Value.int .i32)).toArray 21)) (some ⟨wx.heap.size, 0, none⟩) l := by
  intro j hj
  have hb : (wx.alloc (.cells (l.map (Value.int .i32)).toArray 21)).heap[wx.heap.size]? = some (.cells (l.map (Value.int .i32)).toArray 21 (0, 0)) := by
    show (wx.heap.push _)[wx.heap.size]? = _; simp
  refine ⟨_, _, rfl, by simp, ?_⟩
  rw [Lib.cell_of_heap hb]
  simp [hj]

theorem own_one {w : World} {base n : Nat} {e : TypeId} {v x : Value} {r : List Value} (h : w.ownsRow base e 1 v n (x :: r)) : ∃ g cap, v = .slice (some ⟨g, 0, none⟩) n cap ∧ w.cell? ⟨g, 0, none⟩ = some x ∧ g < w.heap.size ∧ n ≤ cap := by
  have hlen := h.1
  rcases h.2 with ⟨_, h0⟩ | ⟨g, cap, cur, rfl, hb, hg, hn, _⟩
  · simp only [List.length_cons] at hlen; omega
  · refine ⟨g, cap, rfl, ?_, (Array.getElem?_eq_some_iff.1 hg).1, hn⟩
    have := h.cells (g := g) rfl 0 x (by simp)
    simpa [Addr.add] using this

set_option maxHeartbeats 2000000 in
theorem shown_any (w : World) : Calls Try.prog 11 #[] w fun e w' => e = .returned (.bool true) ∧ Below w.heap.size w w' := by
  have h1 : ∀ (C : Array Value) (wx : World), C = (Lib.byteCells [226, 130, 65]).toArray → Calls Try.prog 13 #[.slice (some ⟨wx.heap.size, 0, none⟩) 3 3] (wx.alloc (.cells C 5)) fun e w' => e = .returned (.string ⟨#[239, 191, 189, 65]⟩) ∧ Below wx.heap.size wx w' := fun C wx hC => by
    subst hC
    refine (dec_any _ 3 [226, 130, 65] _ (lit_bytes _ wx) (by simp) (by simp) (by omega)).mono ?_; rintro e w' ⟨rfl, hb⟩
    rw [dec_ex]
    exact ⟨rfl, ((Below.refl _ _).alloc (Nat.le_refl _) _).trans (hb.mono (by simp))⟩
  have h2 : ∀ (C : Array Value) (wx : World), C = (Lib.byteCells [244, 143, 191, 191]).toArray → Calls Try.prog 14 #[.slice (some ⟨wx.heap.size, 0, none⟩) 4 4] (wx.alloc (.cells C 5)) fun e w' => ∃ g cap, e = .returned (.slice (some ⟨g, 0, none⟩) 1 cap) ∧ w'.cell? ⟨g, 0, none⟩ = some (.int .i32 1114111) ∧ g < w'.heap.size ∧ Below wx.heap.size wx w' := fun C wx hC => by
    subst hC
    refine (runes_any _ 4 [244, 143, 191, 191] _ (lit_bytes _ wx) (by simp) (by simp) (by omega)).mono ?_; rintro e w' ⟨v, rfl, ho, hb⟩
    rw [rns_ex] at ho
    obtain ⟨g, cap, rfl, hc, hg, _⟩ := own_one ho
    exact ⟨g, cap, rfl, hc, hg, ((Below.refl _ _).alloc (Nat.le_refl _) _).trans (hb.mono (by simp))⟩
  have h3 : ∀ (C : Array Value) (wx : World), C = ([8364, -1].map (Value.int .i32)).toArray → Calls Try.prog 21 #[.slice (some ⟨wx.heap.size, 0, none⟩) 2 2] (wx.alloc (.cells C 21)) fun e w' => e = .returned (.string ⟨#[226, 130, 172, 239, 191, 189]⟩) ∧ Below wx.heap.size wx w' := fun C wx hC => by
    subst hC
    refine (encode_any _ 2 [8364, -1] _ (lit_nums _ wx) (by simp)).mono ?_; rintro e w' ⟨rfl, hb⟩
    rw [encs_ex]
    exact ⟨rfl, ((Below.refl _ _).alloc (Nat.le_refl _) _).trans (hb.mono (by simp))⟩
  have h4 : ∀ (C : Array Value) (wx : World), C = (Lib.byteCells [65, 226]).toArray → Calls Try.prog 15 #[.slice (some ⟨wx.heap.size, 0, none⟩) 2 2] (wx.alloc (.cells C 5)) fun e w' => e = .returned (.int .i64 1) ∧ Below wx.heap.size wx w' := fun C wx hC => by
    subst hC
    refine (flt_any _ 2 [65, 226] _ (lit_bytes _ wx) (by simp) (by omega)).mono ?_; rintro e w' ⟨rfl, rfl⟩
    rw [flt_ex]
    exact ⟨rfl, (Below.refl _ _).alloc (Nat.le_refl _) _⟩
  have H1 := Lib.hid h1
  have H2 := Lib.hid h2
  have H3 := Lib.hid h3
  have H4 := Lib.hid h4
  clear h1 h2 h3 h4
  go_enter Try.func11, Try.ntmps11
  go_wp2_with fail
  refine (H1.out _ _ rfl).mono ?_; rintro e w1 ⟨rfl, hb⟩
  have B1 := Lib.hid hb
  clear hb
  go_wp2_with fail
  refine (H2.out _ _ rfl).mono ?_; rintro e w2 ⟨g, cap, rfl, hc, hg, hb⟩
  have B2 := Lib.hid (B1.out.trans (hb.mono B1.out.size))
  clear hb
  go_wp2_with fail
  refine (H3.out _ _ rfl).mono ?_; rintro e w3 ⟨rfl, hb⟩
  have B3 := Lib.hid (B2.out.trans (hb.mono B2.out.size))
  clear hb hc
  go_wp2_with fail
  refine (H4.out _ _ rfl).mono ?_; rintro e w4 ⟨rfl, hb⟩
  have B4 := Lib.hid (B3.out.trans (hb.mono B3.out.size))
  clear hb
  go_wp2
  go_ret
  exact ⟨rfl, B4.out⟩
end Go.Proofs.Ytaahblbkigkfcaa
