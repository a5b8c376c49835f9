/- Right texts again; what a slice shows as a text, and a text as a slice. -/
import Derived.Test.YtagmjbjgphhlcaaDoorG
set_option linter.unusedVariables false
namespace Go.Proofs.YtagmjbjgphhlcaaDoor
open Go.RowKit

theorem dec_good (p r : List UInt8) (h : good p = true) : dec (p ++ r) = p ++ dec r := by
  unfold dec; rw [pcs_good_cons p r h, List.flatMap_cons]; rfl
theorem dec_take (l : List UInt8) : dec (l.take (flt l)) = l.take (flt l) := by
  induction l using len_ind with
  | _ l ih =>
    by_cases h : l = []
    · subst h; simp [dec_nil]
    · have hb := pc_bd l h
      rw [flt_cons l h]
      split
      · rename_i ho
        rw [List.take_add, dec_good _ _ (good_pc l h ho), ih _ (by simp only [List.length_drop]; omega)]
      · simp [dec_nil]
theorem dec_eq (l : List UInt8) : dec l = l ↔ flt l = l.length := by
  constructor
  · intro h
    have := flt_dec l
    rw [h] at this
    exact this
  · intro h
    have := dec_flt l
    rw [if_pos h, h] at this
    simpa using this

theorem slice_hi (a : Option Addr) (len cap hi : Nat) (h : hi ≤ len) (hc : len ≤ cap) (W : World) : (Instr.slice 29 (.slice a len cap) none (some (.int .i64 hi)) none).run Tryd.prog W = .ok (.slice a hi cap) W := by
  have h1 : hi ≤ cap := by omega
  go_simp

theorem Src.take {w : World} {a : Option Addr} {c : Nat} {l : List UInt8} (h : Src w a c l) (k : Nat) : Src w a c (l.take k) := by
  refine ⟨?_, by have := h.cap; simp only [List.length_take]; omega, h.big, fun e => ⟨by rw [(h.nil e).1]; simp, (h.nil e).2⟩⟩
  rcases h.bytes with e | ⟨b, o, e1, e2, e3⟩
  · left; rw [e]; simp
  · exact .inr ⟨b, o, e1, e2, e3.take k⟩
theorem conv_src (w : World) (a : Option Addr) (c : Nat) (l : List UInt8) (h : Src w a c l) : (convert 29 9 (.slice a l.length c)).run Tryd.prog w = .ok (.string ⟨l.toArray⟩) w := by
  cases a with
  | none =>
    obtain ⟨rfl, rfl⟩ := h.nil rfl
    rw [run_convert_bytes_string w 29 9 5 none _ 0 Tryd.underlying29 Tryd.underlying5 Tryd.underlying9]
    rfl
  | some x =>
    refine run_convert_bytes_back (P := Tryd.prog) w 29 9 5 x c l Tryd.underlying29 Tryd.underlying5 Tryd.underlying9 (fun j hj => ?_)
    rcases h.bytes with rfl | ⟨b, o, he, _, hr⟩
    · simp at hj
    · cases he
      rw [Lib.add_plain, hr j hj]

/-- a text's bytes -/
theorem conv_str (X : ByteArray) (hX : X.size ≤ 9223372036854775807) : ∃ (WF : World → World) (cf : World → Nat), (∀ w, (convert 9 29 (.string X)).run Tryd.prog w = .ok (.slice (some ⟨w.heap.size, 0, none⟩) X.size (cf w)) (WF w)) ∧ (∀ w, Below w.heap.size w (WF w)) ∧ ∀ w, cf w ≤ 9223372036854775807 → Src (WF w) (some ⟨w.heap.size, 0, none⟩) (cf w) X.data.toList := by
  refine ⟨fun w => w.drew.alloc (.cells (bytesRow X (grownCap w X.size 0 5)) 5 ((bytesRow X (grownCap w X.size 0 5)).size, (bytesRow X (grownCap w X.size 0 5)).size + 1)), fun w => grownCap w X.size 0 5, fun w => ?_, fun w => ((Below.refl _ _).drew).alloc (Nat.le_refl _) _, fun w hc => ?_⟩
  · exact run_bytes_of_string (P := Tryd.prog) w 9 29 5 X Tryd.underlying9 Tryd.underlying29 Tryd.underlying5
  · refine ⟨.inr ⟨_, 0, rfl, by simp, ?_⟩, by have := grownCap_ge w X.size 0 5; simpa using this, hc, fun h => by cases h⟩
    intro j hj
    have hj' : j < X.data.size := by simpa using hj
    rw [Nat.zero_add]
    have hb : (w.drew.alloc (.cells (bytesRow X (grownCap w X.size 0 5)) 5 ((bytesRow X (grownCap w X.size 0 5)).size, (bytesRow X (grownCap w X.size 0 5)).size + 1))).heap[w.heap.size]? = some (.cells (bytesRow X (grownCap w X.size 0 5)) 5 ((bytesRow X (grownCap w X.size 0 5)).size, (bytesRow X (grownCap w X.size 0 5)).size + 1)) := by
      show (w.heap.push _)[w.heap.size]? = _
      simp
    unfold World.cell?
    simp only [hb]
    unfold bytesRow
    rw [Array.getElem?_append_left (by simpa using hj'), Array.getElem?_eq_getElem (by simpa using hj')]
    simp
theorem cap_ok (X : ByteArray) (w : World) (hX : X.size ≤ maxLen) : grownCap w X.size 0 5 ≤ 9223372036854775807 := by
  have := grownCap_le_maxLen w X.size 0 5 hX
  unfold maxLen at this; omega
theorem conv_str' (X : ByteArray) (hX : X.size ≤ 9223372036854775807) : ∃ (WF : World → World) (cf : World → Nat), (∀ w, (convert 9 29 (.string X)).run Tryd.prog w = .ok (.slice (some ⟨w.heap.size, 0, none⟩) X.size (cf w)) (WF w)) ∧ (∀ w, Below w.heap.size w (WF w)) ∧ ∀ w, Src (WF w) (some ⟨w.heap.size, 0, none⟩) (cf w) X.data.toList := by
  obtain ⟨WF, cf, h1, h2, h3⟩ : ∃ (WF : World → World) (cf : World → Nat), (∀ w, (convert 9 29 (.string X)).run Tryd.prog w = .ok (.slice (some ⟨w.heap.size, 0, none⟩) X.size (cf w)) (WF w)) ∧ (∀ w, Below w.heap.size w (WF w)) ∧ ∀ w, cf w ≤ 9223372036854775807 → Src (WF w) (some ⟨w.heap.size, 0, none⟩) (cf w) X.data.toList := conv_str X hX
  refine ⟨WF, cf, h1, h2, fun w => h3 w ?_⟩
  have e1 := h1 w
  have e2 := run_bytes_of_string (P := Tryd.prog) w 9 29 5 X Tryd.underlying9 Tryd.underlying29 Tryd.underlying5
  have e3 := e1.symm.trans e2
  simp only [Result.ok.injEq, Value.slice.injEq] at e3
  rw [e3.1.2.2]
  exact cap_ok X w (by unfold maxLen; omega)

end Go.Proofs.YtagmjbjgphhlcaaDoor
