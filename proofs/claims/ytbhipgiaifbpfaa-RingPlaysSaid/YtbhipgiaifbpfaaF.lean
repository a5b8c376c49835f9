/- What holds of a ring in any case. -/
import Derived.Test.YtbhipgiaifbpfaaE
import Derived.Lib.SlBytesConst
import Derived.Laws.IdiomStrings
namespace Go.Proofs.Ytbhipgiaifbpfaa
open Go.RowKit

theorem conv28 (W : World) (B k c : Nat) (l : List UInt8) (hl : l.length = k) (h : W.heap[B]? = some (.cells (l.map byte).toArray 5 (0, 0))) :
    (convert 28 9 (.slice (some ⟨B, 0, none⟩) k c)).run Try.prog W = .ok (.string ⟨l.toArray⟩) W := by
  subst hl
  exact run_convert_bytes_back (P := Try.prog) W 28 9 5 ⟨B, 0, none⟩ c l Try.underlying28 Try.underlying5 Try.underlying9 (fun i hi => by
    rw [add_at]; unfold World.cell?; simp only [h]; simp [hi, byte])

theorem Src.fresh (w : World) (l : List UInt8) (C : Array Value) (hC : C = (l.map byte).toArray) (D : Nat) (hD : D < w.heap.size) (hl : l.length ≤ 4096) (fr : Nat × Nat) :
    Src (w.alloc (.cells C 5 fr)) (some ⟨w.heap.size, 0, none⟩) l.length l.length l D := by
  refine ⟨rfl, Nat.le_refl _, by omega, fun j hj => ⟨_, rfl, ?_⟩, fun x hx _ => ?_⟩
  · rw [add_at]
    unfold World.cell?
    simp only [heap_alloc_last, hC]
    simp [hj]
  · cases hx
    show w.heap.size ≠ D
    omega

set_option maxHeartbeats 1000000 in
theorem shown_any (w : World) :
    Calls Try.prog 5 #[] w fun e w' => e = .returned (.bool true) ∧ Below w.heap.size w w' := by
  have hn := new_any w 3 (by omega) (by omega)
  have HN := Lib.hid hn
  clear hn
  have kc := fun (w : World) (C : Array Value) (n c : Nat) => Lib.run_convert_bytes_const (P := Try.prog) w 28 5 C n c Try.underlying28 Try.underlying5
  go_enter Try.func5, Try.ntmps5
  go_wp2_with fail
  refine HN.out.mono ?_
  rintro e w1 ⟨S, D, rfl, hR, hb, hS, hD, hS2, hD2⟩
  have HR := Lib.hid hR
  have HB := Lib.hid hb
  clear hR hb
  go_wp2_with fail
  have hb2 : Below w1.heap.size w1 (w1.alloc (.cells #[.int .u8 97, .int .u8 98, .int .u8 99, .int .u8 100] 5 (4, 5))) := (Below.refl _ _).alloc (Nat.le_refl _) _
  have hs := Src.fresh w1 [97, 98, 99, 100] #[.int .u8 97, .int .u8 98, .int .u8 99, .int .u8 100] rfl D hD2 (by decide) (4, 5)
  have hr := HR.out.below hb2
  have hp := put_any _ S D 3 0 0 _ hr _ _ _ _ hs 3 (by decide)
  have HB2 := Lib.hid (HB.out.trans (hb2.mono HB.out.size))
  have hz2 : w.heap.size ≤ (w1.alloc (.cells #[.int .u8 97, .int .u8 98, .int .u8 99, .int .u8 100] 5 (4, 5))).heap.size := HB2.out.size
  have HZ2 := Lib.hid hz2
  have HP := Lib.hid hp
  clear hb2 hs hr hp hz2 kc
  refine HP.out.mono ?_
  rintro e w2 ⟨rfl, d', hR, hk, hz, hq⟩
  have hB3 := HB2.out.trans (hk.below HZ2.out hS hD)
  have HB3 := Lib.hid hB3
  have HQ : Hid (queue 3 0 3 d' = [97, 98, 99]) := Lib.hid hq
  have ht := take_some w2 S D 3 0 3 d' hR 2 2 (by decide) (by decide)
  have HT := Lib.hid ht
  clear hB3 hR hk hz hq ht
  go_wp2_with fail
  refine HT.out.mono ?_
  rintro e w3 ⟨rfl, hR, hk, hz, hg⟩
  rw [HQ.out] at hg
  have hcv := conv28 w3 w2.heap.size 2 2 [97, 98] rfl hg
  have HB4 := Lib.hid (HB3.out.trans (hk.below HB3.out.size hS hD))
  have HR3 := Lib.hid hR
  clear hR hk hz hg
  go_wp2_with fail
  refine (room_any _ _ _ _ _ _ _ HR3.out).mono ?_
  rintro e w4 ⟨rfl, k4, rfl⟩
  go_wp2_with fail
  refine (len_any _ S D 3 _ _ d' (HR3.out.same (Same.drewN _ _))).mono ?_
  rintro e w5 ⟨rfl, rfl⟩
  go_wp2_with fail
  refine (new_none _ 0 (by decide)).mono ?_
  rintro e w5 ⟨rfl, rfl⟩
  go_wp2
  go_ret
  exact ⟨rfl, below_drewN HB4.out _⟩
end Go.Proofs.Ytbhipgiaifbpfaa
