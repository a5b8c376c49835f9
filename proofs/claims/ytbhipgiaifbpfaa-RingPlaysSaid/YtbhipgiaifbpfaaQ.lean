/- One call of both queues: Take and Peek. -/
import Derived.Test.YtbhipgiaifbpfaaP
import Derived.IntWalk
namespace Go.Proofs.Ytbhipgiaifbpfaa
open Go.RowKit

theorem Kept.tail {S D C : Nat} {w wx wy : World} (h : Kept S D C w wx) (hb : Below w.heap.size wx wy) : Kept S D C w wy :=
  ⟨hb.os.trans h.os, hb.tape.trans h.tape, hb.output.trans h.output, Nat.le_trans h.size hb.size, fun i hi h1 h2 h3 => (hb.block i hi).trans (h.block i hi h1 h2 h3)⟩
theorem cell_keeps {w w' : World} {S D b o : Nat} {x : Value} (k : Keeps S D w w') (h : w.cell? ⟨b, o, none⟩ = some x) (hb : b < w.heap.size) (h1 : b ≠ S) (h2 : b ≠ D) : w'.cell? ⟨b, o, none⟩ = some x := (cell_heap (k.block b hb h1 h2)).trans h
theorem reads_one (w : World) (b : UInt8) (fr : Nat × Nat) : Reads (w.alloc (.cells #[byte b] 5 fr)) (some ⟨w.heap.size, 0, none⟩) 1 [b] := by
  refine ⟨rfl, fun j hj => ⟨_, rfl, ?_⟩⟩
  have : j = 0 := by simp at hj; exact hj
  subst this
  rw [add_at]
  unfold World.cell?
  simp only [heap_alloc_last]
  simp
set_option maxHeartbeats 4000000 in
set_option maxRecDepth 10000 in
theorem step_take (w : World) (S D C most B : Nat) (v0 : Value) (O : List UInt8) (h : BothV w S D C most B v0 O) (hO : O.length ≤ 4096) (N : Int) (sec : Bool) (a : Option Addr) (blen bcap : Nat) :
    Calls Try.prog 8 #[.pointer (some ⟨S, 0, none⟩), .pointer (some ⟨C, 0, none⟩), opV 1 N sec a blen bcap] w (StepSays w S D C most B) := by
  obtain ⟨wB, hwB⟩ : ∃ wB, wB = (w.alloc (.cells #[.int .i64 1, .bool sec, .int .i64 N, .slice a blen bcap] 32)).alloc (.cells #[] 5) := ⟨_, rfl⟩
  have hb : Below w.heap.size w wB := by rw [hwB]; exact ((Below.refl _ _).alloc (Nat.le_refl _) _).alloc (by simp) _
  have hP : wB.cell? ⟨w.heap.size, 2, none⟩ = some (.int .i64 N) := by
    rw [hwB]; unfold World.cell? World.alloc; simp [Array.getElem?_push]
  have hPl : w.heap.size < wB.heap.size := by rw [hwB]; simp; omega
  have hlt := h.lt
  have hB := h.below hb
  have hT := take_any wB S D C most B O hB.both N
  obtain ⟨k, hk⟩ : ∃ k, outN O.length N = k := ⟨_, rfl⟩
  have hkf := outN_eq O.length N
  have hkl := outN_le O.length N
  rw [hk] at hT hkf hkl
  have HT := Lib.hid hT
  have HKF := Lib.hid hkf
  have HBB := Lib.hid hB
  have HBL := Lib.hid hb
  have HW := Lib.hid hwB
  clear hT hkf hB hb hk h hwB
  obtain ⟨hl1, hl2, hl3⟩ := hlt
  unfold opV
  go_enter Try.func8, Try.ntmps8
  go_wp2_with fail
  rw [← HW.out]
  refine HT.out.mono ?_
  rintro e w1 ⟨u, rfl, hu, hr1, hk1⟩
  have hF1 := HBB.out.ref.keeps hk1 (Ne.symm HBB.out.sc) (Ne.symm HBB.out.dc) HBB.out.sb HBB.out.db
  have hP1 : w1.cell? ⟨w.heap.size, 2, none⟩ = some (.int .i64 N) := cell_keeps hk1 hP hPl (by omega) (by omega)
  have hr2 := reftake_any w1 C most B v0 O hF1 N k hO HKF.out
  have hz1 := hk1.size
  obtain ⟨ua, uc, rfl⟩ := own_slice hu
  have HU := Lib.hid hu
  have HR1 := Lib.hid hr1
  have HK1 := Lib.hid hk1
  have HRT := Lib.hid hr2
  have hPl1 : w.heap.size < w1.heap.size := by omega
  clear hu hr1 hk1 hr2 hF1 hP
  go_wp2_with fail
  refine HRT.out.mono ?_
  rintro e w2 ⟨u2, v2, rfl, hu2, hF2, hk2, hv2⟩
  have hz2 := hk2.size
  have hCw : C < wB.heap.size := by omega
  have hu' := own_keeps HU.out hk2 hCw hCw
  have hlen : (O.take k).length = k := by rw [List.length_take]; omega
  have cv1 := conv_own w2 w1.heap.size u2 (O.take k) (by rw [hlen]; exact hu2)
  have cv2 := conv_own w2 wB.heap.size (.slice ua k uc) (O.take k) (by rw [hlen]; exact hu')
  obtain ⟨ua2, uc2, rfl⟩ := own_slice hu2
  have hBV : BothV w2 S D C most B v2 (O.drop k) := by
    obtain ⟨f, n, d, q1, q2, q3⟩ := HR1.out
    exact ⟨⟨f, n, d, q1.keeps hk2 HBB.out.sc HBB.out.dc HBB.out.sc HBB.out.dc, q2, q3⟩, hF2, HBB.out.sb, HBB.out.db, HBB.out.sc, HBB.out.dc⟩
  have hap : ∀ G, (Value.slice ua k uc).ownBlock = some G → Apart S D C v2 G := fun G hG => by
    obtain ⟨g1, g2⟩ := own_blk HU.out hG
    refine ⟨by omega, by omega, by omega, fun e => ?_⟩
    have := (own_blk hv2 e).1
    omega
  have hKept : Kept S D C w w2 := (Kept.of_below HBL.out).trans ((HK1.out.ring C).trans (hk2.ref S D))
  have hb3 : Below w2.heap.size w2 (w2.alloc (.cells #[byte 9] 5)) := (Below.refl _ _).alloc (Nat.le_refl _) _
  have HU3 : Hid ((w2.alloc (.cells #[byte 9] 5)).ownsRow wB.heap.size 5 1 (.slice ua k uc) k ((O.take k).map byte)) := Lib.hid (own_keeps hu' (Keeps.of_below (S := C) (D := C) hb3) hCw hCw)
  have HBV3 := Lib.hid (hBV.below hb3)
  have HAP := Lib.hid hap
  have HKept3 := Lib.hid (hKept.tail (hb3.mono (by have := HBL.out.size; omega)))
  have HRE : Hid (Reads (w2.alloc (.cells #[byte 9] 5)) (some ⟨w2.heap.size, 0, none⟩) 1 [9]) := Lib.hid (reads_one w2 9 _)
  have hwz : wB.heap.size ≤ w2.heap.size := by omega
  clear hu2 hF2 hk2 hv2 hu' hBV hap hKept hb3 HU HR1 HK1 HRT HT hP1 hlen
  generalize O.take k = T at cv1 cv2 HU3
  generalize (⟨T.toArray⟩ : ByteArray) = s at cv1 cv2
  go_wp2_with (at_builtin; refine list_app (by rfl) (.tmp 95) (.tmp 96) (by rfl) wB.heap.size _ k T (by rfl) HU3.out _ 1 1 [9] (by rfl) HRE.out (by omega) (by simp; omega) ?_; intro v4 w4 ho4 hg4 hat4; have H4 := Lib.hid ho4; have G4 := Lib.hid hg4; have A4 := Lib.hid hat4; clear ho4 hg4 hat4)
  obtain ⟨hBV4, hAP4⟩ := HBV3.out.grown G4.out HAP.out A4.out
  obtain ⟨G, c4, rfl, hGb, hSl⟩ := own_slots H4.out (by omega)
  have hGw : wB.heap.size ≤ G := (own_blk H4.out hGb).1
  have hA := hAP4 G hGb
  have hGw2 : w.heap.size ≤ G := by omega
  have HK4 := Lib.hid (HKept3.out.tail (below_grown G4.out (fun g hg => by have := (own_blk HU3.out hg).1; omega) (by have := HBL.out.size; simp; omega)))
  have HB4 := Lib.hid hBV4
  have HSL4 := Lib.hid hSl
  have HA := Lib.hid hA
  clear hBV4 hAP4 hSl hA H4 G4 A4 HU3 HBV3 HAP HKept3 HRE cv1 cv2
  go_loopw [12] (fun i wr => ∃ j : Nat, j ≤ k + 1 ∧ i = .int .i64 j ∧ BothV wr S D C most B v2 (O.drop k) ∧ Slots wr G (k + 1) ∧ Kept S D C w wr) (fun i _ => k + 1 - (intOf i).toNat)
  case atStart => exact ⟨0, by omega, rfl, HB4.out, HSL4.out, HK4.out⟩
  case round =>
    obtain ⟨j, hj, rfl, hbv, hsl, hkp⟩ := hrel
    have HBR := Lib.hid hbv
    have HKR := Lib.hid hkp
    by_cases hlt : j < k + 1
    · obtain ⟨⟨x, hx⟩, hf, hst⟩ := hsl.at_ j hlt
      have HST := Lib.hid hst
      clear hbv hsl hkp hst
      go_wp2
      go_roundw
      case rel =>
        obtain ⟨q1, q2⟩ := HST.out (.int .u8 254)
        exact ⟨j + 1, by omega, by go_num, HBR.out.other q2 HA.out, q1, HKR.out.tail (q2.below (HKR.out.size) hGw2 hGw2)⟩
      case measure => simp [intOf]; omega
    · clear hbv hsl hkp
      go_wp2
      go_ret
      exact ⟨rfl, ⟨_, HBR.out.both⟩, HKR.out⟩
end Go.Proofs.Ytbhipgiaifbpfaa
