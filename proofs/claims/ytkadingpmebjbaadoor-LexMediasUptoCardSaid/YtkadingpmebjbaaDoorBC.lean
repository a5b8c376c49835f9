/- Two media types alike. -/
import Derived.Test.YtkadingpmebjbaaDoorZ
set_option linter.unusedVariables false
namespace Go.Proofs.YtkadingpmebjbaaDoor
open Go.RowKit

set_option maxHeartbeats 8000000 in
set_option maxRecDepth 100000 in
theorem sameMedia_eq (T S : ByteArray) (a1 a2 : Option Addr) (n c1 c2 : Nat) (l : AL) (w : World) (hn : l.length = n) (h1 : SrcA w a1 c1 l) (h2 : SrcA w a2 c2 l) (hbig : n ≤ 35184372088832) :
    Calls Tryd.prog 15 #[.agg #[.string T, .string S, .slice a1 n c1], .agg #[.string T, .string S, .slice a2 n c2]] w fun e w' => e = .returned (.bool true) ∧ Below w.heap.size w w' := by
  have H1 := Lib.hid h1.at_
  have H2 := Lib.hid h2.at_
  have HN := Lib.hid hn
  clear h1 h2 hn
  go_enter Tryd.func15, Tryd.ntmps15
  go_wp2
  obtain ⟨wB, hwB⟩ : ∃ wB, wB = (w.alloc (.cells #[.string T, .string S, .slice a1 n c1] 24)).alloc (.cells #[.string T, .string S, .slice a2 n c2] 24) := ⟨_, rfl⟩
  have b1 : wB.cell? ⟨w.heap.size, 2, none⟩ = some (.slice a1 n c1) := by
    rw [hwB]; exact (res_cells w (w.alloc _) _ _ (Below.refl _ _) 2).2 _ |>.1
  have b2 : wB.cell? ⟨w.heap.size + 1, 2, none⟩ = some (.slice a2 n c2) := by
    rw [hwB]; simp
  have hsz : wB.heap.size = w.heap.size + 2 := by rw [hwB]; simp
  have hbw : Below w.heap.size w wB := by rw [hwB]; exact ((Below.refl _ _).alloc (Nat.le_refl _) _).alloc (by simp) _
  try rw [← hwB]
  have HBW := Lib.hid hbw
  clear hwB hbw
  go_loopw [5] (fun i wr => ∃ j : Nat, j ≤ n ∧ i = .int .i64 j ∧ Below wB.heap.size wB wr) (fun i _ => n - (intOf i).toNat)
  case atStart => exact ⟨0, by omega, rfl, Below.refl _ _⟩
  case round =>
    obtain ⟨j, hj, rfl, hb⟩ := hrel
    have d1 := (hb.cell (p := ⟨w.heap.size, 2, none⟩) (by show w.heap.size < _; omega)).trans b1
    have d2 := (hb.cell (p := ⟨w.heap.size + 1, 2, none⟩) (by show w.heap.size + 1 < _; omega)).trans b2
    have HB := Lib.hid (HBW.out.trans (hb.mono HBW.out.size))
    have HB2 := Lib.hid hb
    by_cases hlt : j < n
    · have hjl : j < l.length := by rw [HN.out]; exact hlt
      obtain ⟨g1, o1, rfl, hg1, hc1, hc2⟩ := H1.out j hjl
      obtain ⟨g2, o2, rfl, hg2, hc3, hc4⟩ := H2.out j hjl
      have k1 := (HB.out.cell (p := ⟨g1, o1 + j * 2, none⟩) hg1).trans hc1
      have k2 := (HB.out.cell (p := ⟨g1, o1 + j * 2 + 1, none⟩) hg1).trans hc2
      have k3 := (HB.out.cell (p := ⟨g2, o2 + j * 2, none⟩) hg2).trans hc3
      have k4 := (HB.out.cell (p := ⟨g2, o2 + j * 2 + 1, none⟩) hg2).trans hc4
      clear hc1 hc2 hc3 hc4 hb
      generalize l[j].1 = x at k1 k3
      generalize l[j].2 = y at k2 k4
      clear hjl b1 b2
      go_wp2
      go_quiet (fail)
      go_wp2
      go_roundw
      case rel => exact ⟨j + 1, by omega, by go_num, HB2.out.trans (below_drewN _ _)⟩
      case measure => simp [intOf]; omega
    · clear hb b1 b2
      go_wp2
      go_ret
      exact ⟨rfl, HB.out⟩
end Go.Proofs.YtkadingpmebjbaaDoor
