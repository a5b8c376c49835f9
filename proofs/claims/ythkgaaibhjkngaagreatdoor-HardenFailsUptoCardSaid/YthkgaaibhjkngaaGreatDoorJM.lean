/- Harden: what must be in any case; the . -/
import Derived.Test.YthkgaaibhjkngaaGreatDoorHK
import Derived.Test.YthkgaaibhjkngaaGreatDoorHF
import Derived.Test.YthkgaaibhjkngaaGreatDoorHH
set_option linter.unusedVariables false
namespace Go.Proofs.YthkgaaibhjkngaaGreatDoor
open Go.RowKit

def kQ : AL := [(⟨#[67, 111, 110, 110, 101, 99, 116, 105, 111, 110]⟩, ⟨#[120, 44, 32, 72, 111, 115, 116]⟩), (⟨#[88]⟩, ⟨#[49]⟩), (⟨#[72, 111, 115, 116]⟩, ⟨#[97]⟩), (⟨#[121]⟩, ⟨#[50]⟩)]
def kO : AL := [(⟨#[72, 111, 115, 116]⟩, ⟨#[97]⟩), (⟨#[121]⟩, ⟨#[50]⟩), (⟨#[67, 111, 110, 116, 101, 110, 116, 45, 76, 101, 110, 103, 116, 104]⟩, ⟨#[53]⟩)]
def kR : AL := [(⟨#[67, 111, 110, 116, 101, 110, 116, 45, 84, 121, 112, 101]⟩, ⟨#[84, 69, 88, 84, 47, 104, 116, 109, 108, 59, 99, 104, 97, 114, 115, 101, 116, 61, 120]⟩)]
theorem kQ_fwd : fwdF kQ 5 = kO := by kernel_rfl
theorem kR_kind : kindF kR = (true, ⟨#[120]⟩, 0) := by kernel_rfl
theorem kQ_asz : asz kQ ≤ 16777216 := by decide
theorem kR_asz : asz kR ≤ 1073741824 := by decide

set_option maxHeartbeats 16000000 in
set_option maxRecDepth 100000 in
theorem shown21_any (w : World) (ht : TabP w) :
    Calls Tryz.prog 14 #[] w fun e w' => e = .returned (.bool true) ∧ Below w.heap.size w w' := by
  have hf := fun (a : Option Addr) c wx (hb : Below w.heap.size w wx) (hs : SrcA wx a c kQ) => forward_any kQ ⟨#[71, 69, 84]⟩ ⟨#[47]⟩ 5 a 4 c wx rfl hs kQ_asz (by decide) (ht.below hb)
  rw [kQ_fwd] at hf
  have hk := fun (a : Option Addr) c wx (hs : SrcA wx a c kR) => kind_any kR 0 ⟨#[]⟩ a 1 c wx rfl hs kR_asz
  rw [kR_kind] at hk
  have hx := fun wx (hb : Below w.heap.size w wx) => fail502_any wx (ht.below hb)
  have HF : Hid (∀ (a : Option Addr) c wx, Below w.heap.size w wx → SrcA wx a c kQ → Calls Tryz.prog 17 #[.agg #[.string ⟨#[71, 69, 84]⟩, .string ⟨#[47]⟩, .slice a 4 c], .int .i64 5] wx fun e w' => Below wx.heap.size wx w' ∧ ∃ v, e = .returned (.agg #[.string ⟨#[71, 69, 84]⟩, .string ⟨#[47]⟩, v]) ∧ OwnF w' wx.heap.size v kO) := Lib.hid hf
  have HK : Hid (∀ (a : Option Addr) c wx, SrcA wx a c kR → Calls Tryz.prog 53 #[.agg #[.int .i64 0, .string ⟨#[]⟩, .slice a 1 c]] wx fun e w' => e = .returned (.tuple #[.bool true, .string ⟨#[120]⟩, .int .i64 0]) ∧ Below wx.heap.size wx w') := Lib.hid hk
  have HX := Lib.hid hx
  have HS0 := Lib.hid (lit_flds kQ #[.string ⟨#[67, 111, 110, 110, 101, 99, 116, 105, 111, 110]⟩, .string ⟨#[120, 44, 32, 72, 111, 115, 116]⟩, .string ⟨#[88]⟩, .string ⟨#[49]⟩, .string ⟨#[72, 111, 115, 116]⟩, .string ⟨#[97]⟩, .string ⟨#[121]⟩, .string ⟨#[50]⟩] rfl w)
  have HB0 : Hid (Below w.heap.size w (w.alloc (.cells #[.string ⟨#[67, 111, 110, 110, 101, 99, 116, 105, 111, 110]⟩, .string ⟨#[120, 44, 32, 72, 111, 115, 116]⟩, .string ⟨#[88]⟩, .string ⟨#[49]⟩, .string ⟨#[72, 111, 115, 116]⟩, .string ⟨#[97]⟩, .string ⟨#[121]⟩, .string ⟨#[50]⟩] 37))) := Lib.hid ((Below.refl _ _).alloc (Nat.le_refl _) _)
  have HLR := Lib.hid (fun wx => lit_flds kR #[.string ⟨#[67, 111, 110, 116, 101, 110, 116, 45, 84, 121, 112, 101]⟩, .string ⟨#[84, 69, 88, 84, 47, 104, 116, 109, 108, 59, 99, 104, 97, 114, 115, 101, 116, 61, 120]⟩] rfl wx)
  clear hf hk hx ht
  go_enter Tryz.func14, Tryz.ntmps14
  go_wp2_with fail
  refine (HF.out _ _ _ HB0.out HS0.out).mono ?_; rintro e w1 ⟨hb, v, rfl, hown⟩
  obtain ⟨va, vc, hv, hsrc, hfar⟩ := ownF_src hown
  clear hfar
  have hv : v = .slice va 3 vc := hv
  subst hv
  obtain ⟨b, o, rfl, hbl, d1, d2⟩ := hsrc.at_ 2 (by decide)
  have d1 : w1.cell? ⟨b, o + 2 * 2, none⟩ = some (.string ⟨#[67, 111, 110, 116, 101, 110, 116, 45, 76, 101, 110, 103, 116, 104]⟩) := d1
  have d2 : w1.cell? ⟨b, o + 2 * 2 + 1, none⟩ = some (.string ⟨#[53]⟩) := d2
  have HB1 := Lib.hid (HB0.out.trans (hb.mono HB0.out.size))
  clear hb hown hsrc
  obtain ⟨wq, hwq⟩ : ∃ wq, wq = w1.alloc (.cells #[.string ⟨#[71, 69, 84]⟩, .string ⟨#[47]⟩, .slice (some ⟨b, o, none⟩) 3 vc] 24) := ⟨_, rfl⟩
  have HBQ : Hid (Below w.heap.size w wq) := Lib.hid (by rw [hwq]; exact HB1.out.alloc HB1.out.size _)
  have q2 : wq.cell? ⟨w1.heap.size, 2, none⟩ = some (.slice (some ⟨b, o, none⟩) 3 vc) := by rw [hwq]; exact (at_alloc w1 _ _ 2).1
  have hzq : wq.heap.size = w1.heap.size + 1 := by rw [hwq]; simp
  have hba : Below w1.heap.size w1 wq := by rw [hwq]; exact (Below.refl _ _).alloc (Nat.le_refl _) _
  have HWQ := Lib.hid hwq
  have HZQ := Lib.hid hzq
  have hsk : SrcA (wq.alloc (.cells #[.string ⟨#[67, 111, 110, 116, 101, 110, 116, 45, 84, 121, 112, 101]⟩, .string ⟨#[84, 69, 88, 84, 47, 104, 116, 109, 108, 59, 99, 104, 97, 114, 115, 101, 116, 61, 120]⟩] 37)) (some ⟨w1.heap.size + 1, 0, none⟩) 1 kR := by have h := HLR.out wq; rw [hzq] at h; exact h
  have HSK := Lib.hid hsk
  have HBK : Hid (Below wq.heap.size wq (wq.alloc (.cells #[.string ⟨#[67, 111, 110, 116, 101, 110, 116, 45, 84, 121, 112, 101]⟩, .string ⟨#[84, 69, 88, 84, 47, 104, 116, 109, 108, 59, 99, 104, 97, 114, 115, 101, 116, 61, 120]⟩] 37))) := Lib.hid ((Below.refl _ _).alloc (Nat.le_refl _) _)
  have hbq1 : w1.heap.size < wq.heap.size := by omega
  have hbq2 : b < wq.heap.size := by omega
  have d1 := (hba.cell (p := ⟨b, o + 2 * 2, none⟩) hbl).trans d1
  have d2 := (hba.cell (p := ⟨b, o + 2 * 2 + 1, none⟩) hbl).trans d2
  clear hwq hzq hba hsk
  go_wp2_with fail
  rw [← HWQ.out]
  refine (HK.out _ _ _ HSK.out).mono ?_; rintro e w2 ⟨rfl, hb⟩
  have hb2 : Below wq.heap.size wq w2 := HBK.out.trans (hb.mono HBK.out.size)
  have HB2 : Hid (Below w.heap.size w w2) := Lib.hid (HBQ.out.trans (hb2.mono HBQ.out.size))
  have q3 := (hb2.cell (p := ⟨w1.heap.size, 2, none⟩) hbq1).trans q2
  have d3 : w2.cell? ⟨b, o + 4, none⟩ = some (.string ⟨#[67, 111, 110, 116, 101, 110, 116, 45, 76, 101, 110, 103, 116, 104]⟩) := (hb2.cell (p := ⟨b, o + 2 * 2, none⟩) hbq2).trans d1
  have d4 : w2.cell? ⟨b, o + 5, none⟩ = some (.string ⟨#[53]⟩) := (hb2.cell (p := ⟨b, o + 2 * 2 + 1, none⟩) hbq2).trans d2
  clear hb hb2 d1 d2 q2
  go_wp2_with fail
  refine (HX.out _ HB2.out).mono ?_; rintro e w3 ⟨⟨fa, fc, rfl⟩, hb⟩
  have HB3 := Lib.hid (HB2.out.trans (hb.mono HB2.out.size))
  clear hb
  go_wp2
  go_ret
  exact ⟨ret_bool (by simp), HB3.out⟩

end Go.Proofs.YthkgaaibhjkngaaGreatDoor
