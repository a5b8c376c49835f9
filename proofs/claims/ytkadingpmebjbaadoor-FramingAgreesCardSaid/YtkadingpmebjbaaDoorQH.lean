/- How a body ends: what must be in any case. -/
import Derived.Test.YtkadingpmebjbaaDoorQG
import Derived.Test.YtkadingpmebjbaaDoorFI
set_option linter.unusedVariables false
namespace Go.Proofs.YtkadingpmebjbaaDoor
open Go.RowKit

def kA : AL := [(⟨#[67, 111, 110, 116, 101, 110, 116, 45, 76, 101, 110, 103, 116, 104]⟩, ⟨#[53, 44, 32, 48, 53]⟩), (⟨#[99, 111, 110, 116, 101, 110, 116, 45, 108, 101, 110, 103, 116, 104]⟩, ⟨#[53]⟩)]
def kB : AL := [(⟨#[67, 111, 110, 116, 101, 110, 116, 45, 76, 101, 110, 103, 116, 104]⟩, ⟨#[53]⟩), (⟨#[116, 114, 97, 110, 115, 102, 101, 114, 45, 101, 110, 99, 111, 100, 105, 110, 103]⟩, ⟨#[99, 104, 117, 110, 107, 101, 100]⟩)]
theorem kA_te : (allF kA kTE).length = 0 := by kernel_rfl
theorem kA_cl : (allF kA kCL).length = 2 := by kernel_rfl
theorem kA_mem : memF (allF kA kCL) = some [[53], [48, 53], [53]] := by kernel_rfl
theorem m5 : Num.meant 10 [53] = (5, 0) := Num.meant_ok 10 _ (by simp) (by unfold Num.good; decide) (by decide)
theorem m05 : Num.meant 10 [48, 53] = (5, 0) := Num.meant_ok 10 _ (by simp) (by unfold Num.good; decide) (by decide)
theorem kA_len : flen kA = some 5 := by
  unfold flen
  rw [kA_mem]
  simp [lenM, lenF, m5, m05]
theorem kA_body : fbody kA false 0 = ⟨1, 5, 0⟩ := by
  unfold fbody fread
  rw [kA_te, kA_cl, kA_len]
  simp
theorem kB_te : (allF kB kTE).length = 1 := by kernel_rfl
theorem kB_cl : (allF kB kCL).length = 1 := by kernel_rfl
theorem kB_body : fbody kB false 0 = ⟨0, 0, 19⟩ := by
  unfold fbody fread
  rw [kB_te, kB_cl]
  simp
theorem kN_body : fbody [] (nob ⟨#[71, 69, 84]⟩ 200) 3 = ⟨3, 0, 0⟩ := by
  unfold fbody fread
  simp [allF, nob]

set_option maxHeartbeats 16000000 in
set_option maxRecDepth 100000 in
theorem shown6_any (w : World) :
    Calls Tryd.prog 36 #[] w fun e w' => e = .returned (.bool true) ∧ Below w.heap.size w w' := by
  have h1 := fun (a : Option Addr) c wx (hs : SrcA wx a c kA) => greq_any kA ⟨#[]⟩ ⟨#[]⟩ a 2 c wx rfl hs (by decide)
  rw [kA_body] at h1
  have h2 := fun (a : Option Addr) c wx (hs : SrcA wx a c kB) => greq_any kB ⟨#[]⟩ ⟨#[]⟩ a 2 c wx rfl hs (by decide)
  rw [kB_body] at h2
  have h3 := fun wx => gresp_any [] ⟨#[71, 69, 84]⟩ ⟨#[]⟩ 200 none 0 0 wx rfl ⟨fun j hj => by simp at hj, by simp, fun _ => ⟨rfl, rfl⟩⟩ (by simp [asz])
  rw [kN_body] at h3
  have H1 : Hid (∀ (a : Option Addr) c wx, SrcA wx a c kA → Calls Tryd.prog 37 #[.agg #[.string ⟨#[]⟩, .string ⟨#[]⟩, .slice a 2 c]] wx fun e w' => e = .returned (.tuple #[.agg #[.int .i64 1, .int .i64 5], .int .i64 0]) ∧ Below wx.heap.size wx w') := Lib.hid h1
  have H2 : Hid (∀ (a : Option Addr) c wx, SrcA wx a c kB → Calls Tryd.prog 37 #[.agg #[.string ⟨#[]⟩, .string ⟨#[]⟩, .slice a 2 c]] wx fun e w' => e = .returned (.tuple #[.agg #[.int .i64 0, .int .i64 0], .int .i64 19]) ∧ Below wx.heap.size wx w') := Lib.hid h2
  have H3 : Hid (∀ wx, Calls Tryd.prog 38 #[.string ⟨#[71, 69, 84]⟩, .agg #[.int .i64 200, .string ⟨#[]⟩, .slice none 0 0]] wx fun e w' => e = .returned (.tuple #[.agg #[.int .i64 3, .int .i64 0], .int .i64 0]) ∧ Below wx.heap.size wx w') := Lib.hid h3
  have HS0 : Hid (SrcA (w.alloc (.cells #[.string ⟨#[67, 111, 110, 116, 101, 110, 116, 45, 76, 101, 110, 103, 116, 104]⟩, .string ⟨#[53, 44, 32, 48, 53]⟩, .string ⟨#[99, 111, 110, 116, 101, 110, 116, 45, 108, 101, 110, 103, 116, 104]⟩, .string ⟨#[53]⟩] 47)) (some ⟨w.heap.size, 0, none⟩) 2 kA) := Lib.hid (lit_flds kA _ rfl w)
  clear h1 h2 h3
  go_enter Tryd.func36, Tryd.ntmps36
  go_wp2_with fail
  refine (H1.out _ _ _ HS0.out).mono ?_; rintro e w1 ⟨rfl, hb⟩
  have HB1 := Lib.hid (one_below _ _ _ hb)
  clear hb
  have HS1 : Hid (SrcA ((w1.alloc (.cells #[.int .i64 1, .int .i64 5] 55)).alloc (.cells #[.string ⟨#[67, 111, 110, 116, 101, 110, 116, 45, 76, 101, 110, 103, 116, 104]⟩, .string ⟨#[53]⟩, .string ⟨#[116, 114, 97, 110, 115, 102, 101, 114, 45, 101, 110, 99, 111, 100, 105, 110, 103]⟩, .string ⟨#[99, 104, 117, 110, 107, 101, 100]⟩] 47)) (some ⟨w1.heap.size + 1, 0, none⟩) 2 kB) := Lib.hid (by
    have := lit_flds kB _ rfl (w1.alloc (.cells #[.int .i64 1, .int .i64 5] 55))
    rw [show (w1.alloc (.cells #[.int .i64 1, .int .i64 5] 55)).heap.size = w1.heap.size + 1 by simp] at this
    exact this)
  go_wp2_with fail
  refine (H2.out _ _ _ HS1.out).mono ?_; rintro e w2 ⟨rfl, hb⟩
  have HA2 : Hid (Below (w1.alloc (.cells #[.int .i64 1, .int .i64 5] 55)).heap.size (w1.alloc (.cells #[.int .i64 1, .int .i64 5] 55)) w2) := Lib.hid (one_below _ _ _ hb)
  have HB2 := Lib.hid (app_below HB1.out (one_below _ _ _ HA2.out))
  clear hb
  go_wp2_with fail
  refine (H3.out _).mono ?_; rintro e w3 ⟨rfl, hb⟩
  have HA3 := Lib.hid (app_below HA2.out (one_below _ _ _ hb))
  have HB3 := Lib.hid (app_below HB2.out (one_below _ _ _ hb))
  clear hb
  have f0 := ((res_cells _ _ _ _ HA3.out 0).2 (.cells #[.int .i64 3, .int .i64 0] 55)).1
  have f1 := ((res_cells _ _ _ _ HA3.out 1).2 (.cells #[.int .i64 3, .int .i64 0] 55)).1
  go_wp2
  go_ret
  exact ⟨rfl, HB3.out.alloc HB3.out.size _⟩
end Go.Proofs.YtkadingpmebjbaaDoor
