/- The document's queue: its bytes in a row of their own; what Peek tells. -/
import Derived.Test.YtbhipgiaifbpfaaJ
namespace Go.Proofs.Ytbhipgiaifbpfaa
open Go.RowKit

/-- the document's queue at block C -/
structure RefR (w : World) (C most B : Nat) (v : Value) (O : List UInt8) : Prop where
  str : w.heap[C]? = some (.cells #[.int .i64 most, v] 30 (0, 0))
  own : w.ownsRow B 5 1 v O.length (O.map byte)
  cb : C < B
  bb : B ≤ w.heap.size
theorem RefR.c0 {w : World} {C most B : Nat} {v : Value} {O : List UInt8} (h : RefR w C most B v O) : w.cell? ⟨C, 0, none⟩ = some (.int .i64 most) := by
  unfold World.cell?; simp only [h.str]; rfl
theorem RefR.c1 {w : World} {C most B : Nat} {v : Value} {O : List UInt8} (h : RefR w C most B v O) : w.cell? ⟨C, 1, none⟩ = some v := by
  unfold World.cell?; simp only [h.str]; rfl
theorem RefR.f {w : World} {C most B : Nat} {v : Value} {O : List UInt8} (h : RefR w C most B v O) (j : Nat) : w.frozen? ⟨C, j, none⟩ = false := by
  unfold World.frozen?; simp only [h.str]; simp

theorem own_form {w : World} {B : Nat} {v : Value} {O : List UInt8} (h : w.ownsRow B 5 1 v O.length (O.map byte)) : ∃ a c, v = .slice a O.length c ∧ O.length ≤ c ∧ Reads w a O.length O := by
  rcases h.2 with ⟨rfl, h0⟩ | ⟨g, cap, cur, rfl, _, hg, hn, _, _, ht⟩
  · have : O = [] := List.eq_nil_of_length_eq_zero h0
    subst this
    exact ⟨none, 0, rfl, Nat.le_refl _, Reads.nil w none⟩
  · refine ⟨some ⟨g, 0, none⟩, cap, rfl, hn, rfl, fun j hj => ⟨_, rfl, ?_⟩⟩
    refine h.cells (g := g) rfl j _ ?_
    simp [hj]
theorem Reads.take {w : World} {a : Option Addr} {m : Nat} {l : List UInt8} (h : Reads w a m l) (k : Nat) (hk : k ≤ m) : Reads w a k (l.take k) := by
  have hl := h.len
  refine ⟨by rw [List.length_take]; omega, fun j hj => ?_⟩
  rw [List.length_take] at hj
  obtain ⟨x, hx, hc⟩ := h.cells j (by omega)
  exact ⟨x, hx, by rw [List.getElem_take]; exact hc⟩
theorem Reads.below {w w' : World} {a : Option Addr} {m : Nat} {l : List UInt8} (h : Reads w a m l) (hb : Below w.heap.size w w') : Reads w' a m l :=
  ⟨h.len, fun j hj => by
    obtain ⟨x, hx, hc⟩ := h.cells j hj
    refine ⟨x, hx, ?_⟩
    have hlt : (x.add j).block < w.heap.size := by
      rcases Nat.lt_or_ge (x.add j).block w.heap.size with h' | h'
      · exact h'
      · unfold World.cell? at hc
        rw [Array.getElem?_eq_none h'] at hc
        simp at hc
    rw [World.cell?_of_block (hb.block _ hlt)]; exact hc⟩
theorem own_empty (w : World) (fr : Nat × Nat) (hf : fr = (0, 0)) : (w.alloc (.cells #[] 5 fr)).ownsRow w.heap.size 5 1 (.slice (some ⟨w.heap.size, 0, none⟩) 0 0) 0 (([] : List UInt8).map byte) := by
  subst hf
  exact ⟨rfl, .inr ⟨w.heap.size, 0, #[], rfl, Nat.le_refl _, heap_alloc_last w _, Nat.le_refl _, by unfold maxLen; omega, rfl, rfl⟩⟩
theorem below_grown {B : Nat} {w w' : World} {row : Option Nat} (h : w.grownBy w' row) (hr : ∀ g, row = some g → B ≤ g) (hB : B ≤ w.heap.size) : Below B w w' :=
  ⟨h.os, h.tape, h.output, h.size, fun i hi => h.block i (by omega) (fun e => by have := hr i e.symm; omega)⟩

set_option maxHeartbeats 1000000 in
theorem refpeek_any (w : World) (C most B : Nat) (v : Value) (O : List UInt8) (h : RefR w C most B v O) (N : Int) (k : Nat) (hO : O.length ≤ 4096)
    (hk : (if N < 0 then 0 else if (O.length : Int) < N then (O.length : Int) else N) = (k : Int)) :
    Calls Try.prog 16 #[.pointer (some ⟨C, 0, none⟩), .int .i64 N] w fun e w' => ∃ u, e = .returned u ∧ w'.ownsRow w.heap.size 5 1 u k ((O.take k).map byte) ∧ Below w.heap.size w w' := by
  have c1 := h.c1
  have hCl : C < w.heap.size := Nat.lt_of_lt_of_le h.cb h.bb
  obtain ⟨a, c, rfl, hc, hr⟩ := own_form h.own
  have hkO : k ≤ O.length := by split at hk; omega; split at hk <;> omega
  have hsl : ∀ W, (Instr.slice 28 (.slice a O.length c) none (some (.int .i64 k)) none).run Try.prog W = .ok (.slice a k c) W := slice_hi a O.length c k hkO hc
  have hrd : ∀ fr, Reads (w.alloc (.cells #[] 5 fr)) a k (O.take k) := fun fr => (hr.take k hkO).below ((Below.refl _ _).alloc (Nat.le_refl _) _)
  have hfin : ∀ fr, fr = (0, 0) → ∀ u w', w'.ownsRow w.heap.size 5 1 u (0 + k) (([] ++ O.take k).map byte) → (w.alloc (.cells #[] 5 fr)).grownBy w' (some w.heap.size) → w'.ownsRow w.heap.size 5 1 u k ((O.take k).map byte) ∧ Below w.heap.size w w' := fun fr _ u w' h1 h2 =>
    ⟨by simpa using h1, ((Below.refl _ _).alloc (Nat.le_refl _) _).trans (below_grown h2 (fun g e => by cases e; exact Nat.le_refl _) (by simp))⟩
  have hlO : (O.length : Int) ≤ 4096 := by omega
  have HRD := Lib.hid hrd
  have HF := Lib.hid hfin
  clear h hr hrd hfin hc
  generalize O.take k = T at HRD HF
  generalize O.length = n at *
  by_cases hN : N < 0
  · obtain rfl : k = 0 := by rw [if_pos hN] at hk; omega
    clear hk
    go_enter Try.func16, Try.ntmps16
    go_wp2_with (at_builtin; refine list_app (by rfl) (.tmp 19) (.tmp 25) (by rfl) w.heap.size _ 0 [] (by rfl) (own_empty w _ rfl) a 0 c T (by rfl) (HRD.out _) (by omega) (by simp) ?_; intro u w1 ho hg _; have HX := Lib.hid (HF.out _ rfl u w1 ho hg); clear ho hg)
    go_ret
    exact ⟨_, rfl, HX.out⟩
  rw [if_neg hN] at hk
  by_cases hN2 : (n : Int) < N
  · obtain rfl : k = n := by rw [if_pos hN2] at hk; omega
    clear hk
    go_enter Try.func16, Try.ntmps16
    go_wp2_with (at_builtin; refine list_app (by rfl) (.tmp 19) (.tmp 25) (by rfl) w.heap.size _ 0 [] (by rfl) (own_empty w _ rfl) a _ c T (by rfl) (HRD.out _) (by omega) (by simp) ?_; intro u w1 ho hg _; have HX := Lib.hid (HF.out _ rfl u w1 ho hg); clear ho hg)
    go_ret
    exact ⟨_, rfl, HX.out⟩
  rw [if_neg hN2] at hk
  subst hk
  go_enter Try.func16, Try.ntmps16
  go_wp2_with (at_builtin; refine list_app (by rfl) (.tmp 19) (.tmp 25) (by rfl) w.heap.size _ 0 [] (by rfl) (own_empty w _ rfl) a _ c T (by rfl) (HRD.out _) (by omega) (by simp) ?_; intro u w1 ho hg _; have HX := Lib.hid (HF.out _ rfl u w1 ho hg); clear ho hg)
  go_ret
  exact ⟨_, rfl, HX.out⟩
end Go.Proofs.Ytbhipgiaifbpfaa
