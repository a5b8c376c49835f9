/- The document's queue: Put. -/
import Derived.Test.YtbhipgiaifbpfaaL
namespace Go.Proofs.Ytbhipgiaifbpfaa
open Go.RowKit

theorem Keeps.grown {S D : Nat} {w w' : World} {row : Option Nat} (h : w.grownBy w' row) (hr : ∀ g, row = some g → w.heap.size ≤ g) : Keeps S D w w' :=
  Keeps.of_below (below_grown h hr (Nat.le_refl _))

set_option maxHeartbeats 2000000 in
theorem refput_any (w : World) (C most B : Nat) (v : Value) (O : List UInt8) (h : RefR w C most B v O) (hmo : most ≤ 4096) (hO : O.length ≤ most) (a : Option Addr) (blen bcap : Nat) (l : List UInt8) (hl : Reads w a blen l) (hcap : blen ≤ bcap) (hcb : bcap ≤ 9223372036854775807) (m : Nat)
    (hm : (if (most : Int) - O.length < blen then (most : Int) - O.length else blen) = (m : Int)) :
    Calls Try.prog 14 #[.pointer (some ⟨C, 0, none⟩), .slice a blen bcap] w fun e w' => ∃ v', e = .returned (.int .i64 m) ∧ RefR w' C most B v' (O ++ l.take m) ∧ Keeps C C w w' ∧ w'.ownsRow w.heap.size 5 1 v' (O.length + m) ((O ++ l.take m).map byte) := by
  have hCl : C < w.heap.size := Nat.lt_of_lt_of_le h.cb h.bb
  have hCB := h.cb
  have hBB := h.bb
  have hmb : m ≤ blen := by split at hm <;> omega
  have hmn : O.length + m ≤ most := by split at hm <;> omega
  obtain ⟨ra, c, rfl, hc, hr⟩ := own_form h.own
  have c0 := h.c0
  have c1 := h.c1
  have hsl : ∀ W, (Instr.slice 28 (.slice a blen bcap) none (some (.int .i64 m)) none).run Try.prog W = .ok (.slice a m bcap) W := slice_hi a blen bcap m hmb hcap
  have HR := Lib.hid hr
  have HL := Lib.hid hl
  have HS := Lib.hid h.str
  clear hr hl h
  -- behind the first append
  have F1 : ∀ (W : World), Same w W → ∀ (v1 : Value) (w1 : World), (W.alloc (.cells #[] 5)).grownBy w1 (some W.heap.size) → (v1.ownBlock = some W.heap.size ∨ v1.ownBlock = some (W.alloc (.cells #[] 5)).heap.size) →
      Below w.heap.size w w1 ∧ (∀ g, v1.ownBlock = some g → w.heap.size ≤ g) ∧ Reads w1 a m (l.take m) := fun W hs v1 w1 hg hv => by
    have hsz : W.heap.size = w.heap.size := by rw [hs.heap]
    have hb0 : Below w.heap.size w W := ⟨hs.os, hs.tape, hs.output, by rw [hs.heap]; exact Nat.le_refl _, fun i _ => by rw [hs.heap]⟩
    have hb : Below w.heap.size w w1 := (hb0.trans ((Below.refl _ _).alloc (by omega) _)).trans (below_grown hg (fun g e => by cases e; omega) (by simp; omega))
    refine ⟨hb, fun g hge => ?_, (HL.out.take m hmb).below hb⟩
    rcases hv with hv | hv <;> (rw [hge] at hv; cases hv) <;> first | omega | (simp; omega)
  have F0 : ∀ (W : World), Same w W → (W.alloc (.cells #[] 5)).ownsRow w.heap.size 5 1 (.slice (some ⟨W.heap.size, 0, none⟩) 0 0) 0 (([] : List UInt8).map byte) ∧ Reads (W.alloc (.cells #[] 5)) ra O.length O := fun W hs => by
    have hsz : W.heap.size = w.heap.size := by rw [hs.heap]
    have hb0 : Below w.heap.size w W := ⟨hs.os, hs.tape, hs.output, by rw [hs.heap]; exact Nat.le_refl _, fun i _ => by rw [hs.heap]⟩
    refine ⟨own_base (own_empty W _ rfl) (by omega), HR.out.below (hb0.trans ((Below.refl _ _).alloc (by omega) _))⟩
  have F2 : ∀ (w1 : World) (v1 v2 : Value) (w2 : World), Below w.heap.size w w1 → (∀ g, v1.ownBlock = some g → w.heap.size ≤ g) → w1.grownBy w2 v1.ownBlock → w2.ownsRow w.heap.size 5 1 v2 (O.length + m) ((O ++ l.take m).map byte) →
      (w2.cell? ⟨C, 1, none⟩ = some (.slice ra O.length c) ∧ w2.frozen? ⟨C, 1, none⟩ = false) ∧ (RefR (w2.setCell ⟨C, 1, none⟩ v2) C most B v2 (O ++ l.take m) ∧ Keeps C C w (w2.setCell ⟨C, 1, none⟩ v2) ∧ (w2.setCell ⟨C, 1, none⟩ v2).ownsRow w.heap.size 5 1 v2 (O.length + m) ((O ++ l.take m).map byte)) := fun w1 v1 v2 w2 hb hv hg ho => by
    have hb2 : Below w.heap.size w w2 := hb.trans (below_grown hg hv hb.size)
    have hs2 : w2.heap[C]? = some (.cells #[.int .i64 most, .slice ra O.length c] 30 (0, 0)) := (hb2.block C hCl).trans HS.out
    have hsz2 := hb2.size
    have hlen : (O ++ l.take m).length = O.length + m := by rw [List.length_append, List.length_take, HL.out.len]; omega
    obtain ⟨hR, hK⟩ := RefR.stored (v' := v2) (O := O ++ l.take m) hs2 (by rw [hlen]; exact own_base ho hBB) hCB (by omega)
    exact ⟨⟨by unfold World.cell?; simp only [hs2]; rfl, by unfold World.frozen?; simp only [hs2]; simp⟩, hR, (Keeps.of_below hb2).trans hK, own_keeps ho hK hCl hCl⟩
  have G0 := Lib.hid F0
  have G1 := Lib.hid F1
  have G2 := Lib.hid F2
  have HM := Lib.hid hm
  clear F0 F1 F2 HR HL HS hm
  generalize hT : O ++ l.take m = T at G2
  have HT := Lib.hid hT
  clear hT
  generalize O.length = n at *
  by_cases hA : (blen : Int) < (most : Int) - n
  · have hmA : (m : Int) = blen := by have := HM.out; split at this <;> omega
    obtain rfl : m = blen := by omega
    clear HM hmA
    go_enter Try.func14, Try.ntmps14
    go_wp2
    go_quiet (fail)
    go_wp2
    go_name_world W hW
    have sm : Same w W := by rw [← hW]; exact Same.drewN _ _
    have sm2 : Same w W.drew := ⟨sm.heap, sm.os, sm.tape, sm.output⟩
    have hwz : W.heap.size = w.heap.size := by rw [sm.heap]
    have d1 : W.cell? ⟨C, 1, none⟩ = some (.slice ra n c) := by unfold World.cell? at c1 ⊢; rw [sm.heap]; exact c1
    have hCl2 : C < W.heap.size := by omega
    have SM := Lib.hid sm2
    have HZ := Lib.hid hwz
    clear sm sm2 hW c0 c1 hwz
    go_region_law (first
      | (refine step_app (by rfl) (.tmp 23) (.tmp 27) (by rfl) w.heap.size _ 0 [] (by rfl) (G0.out _ SM.out).1 ra n c O (by rfl) (G0.out _ SM.out).2 (by omega) (by have := HZ.out; simp; omega) ?_; intro v1 w1 ho1 hg1 hat1; have H1 := Lib.hid ho1; have X1 := Lib.hid (G1.out _ SM.out v1 w1 hg1 hat1); clear ho1 hg1 hat1)
      | (refine step_app (by rfl) (.tmp 28) (.tmp 31) (by rfl) w.heap.size v1 (0 + n) ([] ++ O) (by rfl) H1.out a m bcap (l.take m) (by rfl) X1.out.2.2 (by omega) X1.out.1.size ?_; intro v2 w2 ho2 hg2 _; simp only [Nat.zero_add, List.nil_append] at ho2; obtain ⟨va, vc, rfl⟩ := own_slice ho2; have H2 := Lib.hid (G2.out w1 v1 _ w2 X1.out.1 X1.out.2.1 hg2 (by rw [HT.out] at ho2; exact ho2)).2; obtain ⟨e1, f1⟩ := (G2.out w1 v1 _ w2 X1.out.1 X1.out.2.1 hg2 (by rw [HT.out] at ho2; exact ho2)).1; clear ho2 hg2))
    all_goals
      go_wp2
      go_ret
      obtain rfl := HT.out
      exact ⟨_, rfl, H2.out⟩
  · have hmB : (most : Int) - n = m := by have := HM.out; split at this <;> omega
    have HMB := Lib.hid hmB
    clear HM hmB
    go_enter Try.func14, Try.ntmps14
    go_wp2
    go_quiet (fail)
    go_wp2
    rw [HMB.out]
    go_name_world W hW
    have sm : Same w W := by rw [← hW]; exact Same.drewN _ _
    have sm2 : Same w W.drew := ⟨sm.heap, sm.os, sm.tape, sm.output⟩
    have hwz : W.heap.size = w.heap.size := by rw [sm.heap]
    have d1 : W.cell? ⟨C, 1, none⟩ = some (.slice ra n c) := by unfold World.cell? at c1 ⊢; rw [sm.heap]; exact c1
    have hCl2 : C < W.heap.size := by omega
    have SM := Lib.hid sm2
    have HZ := Lib.hid hwz
    clear sm sm2 hW c0 c1 hwz
    go_region_law (first
      | (refine step_app (by rfl) (.tmp 23) (.tmp 27) (by rfl) w.heap.size _ 0 [] (by rfl) (G0.out _ SM.out).1 ra n c O (by rfl) (G0.out _ SM.out).2 (by omega) (by have := HZ.out; simp; omega) ?_; intro v1 w1 ho1 hg1 hat1; have H1 := Lib.hid ho1; have X1 := Lib.hid (G1.out _ SM.out v1 w1 hg1 hat1); clear ho1 hg1 hat1)
      | (refine step_app (by rfl) (.tmp 28) (.tmp 31) (by rfl) w.heap.size v1 (0 + n) ([] ++ O) (by rfl) H1.out a m bcap (l.take m) (by rfl) X1.out.2.2 (by omega) X1.out.1.size ?_; intro v2 w2 ho2 hg2 _; simp only [Nat.zero_add, List.nil_append] at ho2; obtain ⟨va, vc, rfl⟩ := own_slice ho2; have H2 := Lib.hid (G2.out w1 v1 _ w2 X1.out.1 X1.out.2.1 hg2 (by rw [HT.out] at ho2; exact ho2)).2; obtain ⟨e1, f1⟩ := (G2.out w1 v1 _ w2 X1.out.1 X1.out.2.1 hg2 (by rw [HT.out] at ho2; exact ho2)).1; clear ho2 hg2))
    all_goals
      go_wp2
      go_ret
      obtain rfl := HT.out
      exact ⟨_, rfl, H2.out⟩
end Go.Proofs.Ytbhipgiaifbpfaa
