/- Harden: a failure of 502; what must be in any case. -/
import Derived.Test.YthkgaaibhjkngaaGreatDoorHJ
import Derived.Test.YthkgaaibhjkngaaGreatDoorHF
set_option linter.unusedVariables false
namespace Go.Proofs.YthkgaaibhjkngaaGreatDoor
open Go.RowKit

theorem reason502 (w : World) : Calls Tryz.prog 66 #[.int .i64 502] w fun e w' => e = .returned (.string ⟨#[66, 97, 100, 32, 71, 97, 116, 101, 119, 97, 121]⟩) ∧ w = w' := by
  go_enter Tryz.func66, Tryz.ntmps66
  go_wp2
  go_ret
  exact ⟨rfl, rfl⟩
def fFail : AL := [(⟨#[67, 111, 110, 116, 101, 110, 116, 45, 84, 121, 112, 101]⟩, ⟨#[116, 101, 120, 116, 47, 112, 108, 97, 105, 110, 59, 32, 99, 104, 97, 114, 115, 101, 116, 61, 117, 116, 102, 45, 56]⟩), fSniff, fLen 12, fClos]
theorem fFail_rgt : (rgt fFail).2 = 0 := by kernel_rfl
theorem bg_ctl : ctl (⟨#[66, 97, 100, 32, 71, 97, 116, 101, 119, 97, 121]⟩ : ByteArray).data.toList = -1 := by kernel_rfl
theorem fFail_asz : asz fFail ≤ 16777216 := by
  have h : asz fFail = 113 := by kernel_rfl
  omega
theorem fail_size : (bnd (resT (mk (dstr 502)) ⟨#[66, 97, 100, 32, 71, 97, 116, 101, 119, 97, 121]⟩ (fText fFail)) ++ (⟨#[66, 97, 100, 32, 71, 97, 116, 101, 119, 97, 121]⟩ ++ ⟨#[10]⟩ : ByteArray)).size = 153 := by kernel_rfl

set_option maxHeartbeats 8000000 in
set_option maxRecDepth 100000 in
theorem fail502_any (w : World) (ht : TabP w) :
    Calls Tryz.prog 27 #[.int .i64 502, .bool false] w fun e w' => (∃ a c, e = .returned (.slice a 153 c)) ∧ Below w.heap.size w w' := by
  have hrt := fun (a : Option Addr) c wx (hb : Below w.heap.size w wx) (hs : SrcA wx a c fFail) => rtext_any 502 ⟨#[66, 97, 100, 32, 71, 97, 116, 101, 119, 97, 121]⟩ fFail a 4 c wx rfl hs fFail_asz (by decide) (by decide) fFail_rgt bg_ctl (by decide) (ht.below hb)
  have hsz := fun wx (hb : Below w.heap.size w wx) => sized_any 12 (by decide) (by decide) wx (ht.below hb)
  have hsn := fun wx => sniff_any wx
  have hcl := fun wx => clos_any wx
  have hfs := fail_size
  have hlit := fun wx => lit_flds fFail #[.string ⟨#[67, 111, 110, 116, 101, 110, 116, 45, 84, 121, 112, 101]⟩, .string ⟨#[116, 101, 120, 116, 47, 112, 108, 97, 105, 110, 59, 32, 99, 104, 97, 114, 115, 101, 116, 61, 117, 116, 102, 45, 56]⟩, .string kCTO, .string kNos, .string kLen, .string (mk (dstr 12)), .string kConn, .string kClos] rfl wx
  generalize bnd (resT (mk (dstr 502)) ⟨#[66, 97, 100, 32, 71, 97, 116, 101, 119, 97, 121]⟩ (fText fFail)) = T at hrt hfs
  have hts : T.size ≤ 2048 := by rw [ByteArray.size_append] at hfs; omega
  have HSZ : Hid (∀ wx, Below w.heap.size w wx → Calls Tryz.prog 57 #[.int .i64 12] wx fun e w' => e = .returned (.agg #[.string kLen, .string (mk (dstr 12))]) ∧ Below wx.heap.size wx w') := Lib.hid hsz
  have HSN : Hid (∀ wx, Calls Tryz.prog 64 #[] wx fun e w' => e = .returned (.agg #[.string kCTO, .string kNos]) ∧ Below wx.heap.size wx w') := Lib.hid hsn
  have HCL : Hid (∀ wx, Calls Tryz.prog 65 #[] wx fun e w' => e = .returned (.agg #[.string kConn, .string kClos]) ∧ Below wx.heap.size wx w') := Lib.hid hcl
  have HLIT : Hid (∀ wx : World, SrcA (wx.alloc (.cells #[.string ⟨#[67, 111, 110, 116, 101, 110, 116, 45, 84, 121, 112, 101]⟩, .string ⟨#[116, 101, 120, 116, 47, 112, 108, 97, 105, 110, 59, 32, 99, 104, 97, 114, 115, 101, 116, 61, 117, 116, 102, 45, 56]⟩, .string kCTO, .string kNos, .string kLen, .string (mk (dstr 12)), .string kConn, .string kClos] 37)) (some ⟨wx.heap.size, 0, none⟩) 4 fFail) := Lib.hid hlit
  generalize mk (dstr 12) = D12 at HSZ HLIT
  generalize kCTO = X1 at HSN HLIT
  generalize kNos = X2 at HSN HLIT
  generalize kLen = X3 at HSZ HLIT
  generalize kConn = X4 at HCL HLIT
  generalize kClos = X5 at HCL HLIT
  have HRT := Lib.hid hrt
  have HFS : Hid ((T ++ (⟨#[66, 97, 100, 32, 71, 97, 116, 101, 119, 97, 121]⟩ ++ ⟨#[10]⟩ : ByteArray)).size = 153) := Lib.hid hfs
  clear hrt hsz hsn hcl hfs hlit ht
  go_enter Tryz.func27, Tryz.ntmps27
  go_wp2_with fail
  refine (reason502 _).mono ?_; rintro e w0 ⟨rfl, rfl⟩
  go_wp2_with fail
  refine (HSN.out _).mono ?_; rintro e w1 ⟨rfl, hb⟩
  have HB1 := Lib.hid hb
  clear hb
  go_wp2_with fail
  refine (HSZ.out _ HB1.out).mono ?_; rintro e w2 ⟨rfl, hb⟩
  have HB2 := Lib.hid (HB1.out.trans (hb.mono HB1.out.size))
  clear hb
  go_wp2_with fail
  refine (HCL.out _).mono ?_; rintro e w3 ⟨rfl, hb⟩
  have HB3 := Lib.hid (HB2.out.trans (hb.mono HB2.out.size))
  clear hb
  have HS3 := Lib.hid (HLIT.out w3)
  have HBL : Hid (Below w.heap.size w (w3.alloc (.cells #[.string ⟨#[67, 111, 110, 116, 101, 110, 116, 45, 84, 121, 112, 101]⟩, .string ⟨#[116, 101, 120, 116, 47, 112, 108, 97, 105, 110, 59, 32, 99, 104, 97, 114, 115, 101, 116, 61, 117, 116, 102, 45, 56]⟩, .string X1, .string X2, .string X3, .string D12, .string X4, .string X5] 37))) := Lib.hid (HB3.out.alloc HB3.out.size _)
  go_wp2_with fail
  refine (HRT.out _ _ _ HBL.out HS3.out).mono ?_; rintro e w4 ⟨rfl, hb⟩
  have HB4 := Lib.hid (HBL.out.trans (hb.mono HBL.out.size))
  clear hb
  have g1 : ¬ 9223372036854775807 < T.size + 12 := by omega
  obtain ⟨O, hO⟩ : ∃ O, O = T ++ (⟨#[66, 97, 100, 32, 71, 97, 116, 101, 119, 97, 121]⟩ ++ ⟨#[10]⟩ : ByteArray) := ⟨_, rfl⟩
  have hOs : O.size = 153 := by rw [hO]; exact HFS.out
  have hcv := run_bytes_of_string (P := Tryz.prog) w4 9 45 5 O Tryz.underlying9 Tryz.underlying45 Tryz.underlying5
  have HCV := Lib.hid hcv
  have HE : Hid (Below w.heap.size w (w4.drew.alloc (.cells (bytesRow O (grownCap w4 O.size 0 5)) 5 ((bytesRow O (grownCap w4 O.size 0 5)).size, (bytesRow O (grownCap w4 O.size 0 5)).size + 1)))) := Lib.hid (HB4.out.drew.alloc HB4.out.size _)
  have HO := Lib.hid hO
  clear hcv hO
  go_wp2_with fail
  simp only [← HO.out, HCV.out, hOs, Result.andThen]
  go_wp2
  go_ret
  exact ⟨⟨_, _, rfl⟩, by have h := HE.out; rw [hOs] at h; exact h⟩
end Go.Proofs.YthkgaaibhjkngaaGreatDoor
