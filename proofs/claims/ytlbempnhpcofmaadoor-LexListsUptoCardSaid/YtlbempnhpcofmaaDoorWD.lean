/- LexLists. -/
import Derived.Test.YtlbempnhpcofmaaDoorZ
set_option linter.unusedVariables false
namespace Go.Proofs.YtlbempnhpcofmaaDoor
open Go.RowKit

set_option maxHeartbeats 16000000 in
set_option maxRecDepth 100000 in
theorem lexLists_any (X : ByteArray) (w : World) (hx : X.size ≤ 4194304) :
    Calls Tryd.prog 5 #[.string X] w fun e w' => e = .returned (.bool true) ∧ Below w.heap.size w w' := by
  have H0 := Lib.hid fun wx => shown_any wx
  obtain ⟨ms, n, code, hml, hn, hcode, h1, h2⟩ := list_gives X hx
  have H1 := Lib.hid h1
  have H2 := Lib.hid h2
  have HML := Lib.hid hml
  clear h1 h2 hml hcode
  go_enter Tryd.func5, Tryd.ntmps5
  go_wp2_with fail
  refine (H0.out _).mono ?_; rintro e w0 ⟨rfl, hb⟩
  have B0 := Lib.hid hb
  clear hb
  go_wp2_with fail
  refine (H2.out _).mono ?_; rintro e w1 ⟨hb, a, c, rfl, hs, _⟩
  have B1 := Lib.hid (B0.out.trans (hb.mono B0.out.size))
  have HS1 := Lib.hid hs
  clear hb hs
  go_wp2_with fail
  go_loopw [6] (fun i wr => ∃ k : Nat, k ≤ 2 ∧ i = .int .i64 k ∧ Below w.heap.size w wr ∧ SrcS wr a c ms) (fun i _ => 2 - (intOf i).toNat)
  case atStart => exact ⟨0, by omega, rfl, B1.out, HS1.out⟩
  case round =>
    obtain ⟨k, hk, rfl, hb, hs⟩ := hrel
    have HB := Lib.hid hb
    have HS := Lib.hid hs
    clear hb hs
    by_cases hlt : k < 2
    · go_wp2_with fail
      refine (H1.out _).mono ?_; rintro e w2 ⟨hb, a2, c2, rfl, hs2, hsl⟩
      have hb2 := HB.out.trans (hb.mono HB.out.size)
      have HB2 := Lib.hid hb2
      have HBR := Lib.hid hb
      have HSL := Lib.hid hsl
      have HSA := Lib.hid fun wx (h : wx = w2) => sameList_eq a2 a n c2 c ms w2 HML.out hs2 (HS.out.below hb) (by omega)
      clear hb hb2 hs2 hsl
      go_wp2_with fail
      refine (HSA.out _ rfl).mono ?_; rintro e w3 ⟨rfl, hb⟩
      have HBR3 := Lib.hid (HBR.out.trans (hb.mono HBR.out.size))
      have HSL3 := Lib.hid (HSL.out.below hb)
      clear hb
      go_wp2_with fail
      go_loopw [10] (fun i wi => ∃ j : Nat, j ≤ n ∧ i = .int .i64 j ∧ Below wr.heap.size wr wi ∧ Slots wi a2 wr.heap.size n) (fun i _ => n - (intOf i).toNat)
      case atStart => exact ⟨0, by omega, rfl, HBR3.out, HSL3.out⟩
      case round =>
        obtain ⟨j, hj, rfl, hb, hsl⟩ := hrel
        have HBI := Lib.hid hb
        have HSI := Lib.hid hsl
        clear hb
        by_cases hlt2 : j < n
        · obtain ⟨g, rfl, hg, hc, hf⟩ := hsl j hlt2
          obtain ⟨u, hu⟩ := Option.isSome_iff_exists.1 hc
          clear hc hsl
          go_wp2
          go_roundw
          case rel => exact ⟨j + 1, by omega, by go_num, HBI.out.setCell (p := ⟨g, j, none⟩) hg _, HSI.out.set _ _⟩
          case measure => simp [intOf]; omega
        · clear hsl
          go_wp2
          go_roundw
          case rel => exact ⟨k + 1, by omega, by go_num, HB.out.trans (HBI.out.mono HB.out.size), HS.out.below HBI.out⟩
          case measure => simp [intOf]; omega
    · go_wp2
      go_ret
      exact ⟨rfl, HB.out⟩
end Go.Proofs.YtlbempnhpcofmaaDoor
