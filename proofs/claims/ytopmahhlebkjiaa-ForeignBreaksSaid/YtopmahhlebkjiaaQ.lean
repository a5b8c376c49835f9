/- Marks that end drawings and formulas. -/
import Derived.Test.YtopmahhlebkjiaaP
import Derived.Test.YtopmahhlebkjiaaL
namespace Go.Proofs.Ytopmahhlebkjiaa
open Go.RowKit

def many : List ByteArray := [⟨#[98]⟩, ⟨#[98, 105, 103]⟩, ⟨#[98, 108, 111, 99, 107, 113, 117, 111, 116, 101]⟩, ⟨#[98, 111, 100, 121]⟩, ⟨#[98, 114]⟩, ⟨#[99, 101, 110, 116, 101, 114]⟩, ⟨#[99, 111, 100, 101]⟩, ⟨#[100, 100]⟩, ⟨#[100, 105, 118]⟩, ⟨#[100, 108]⟩, ⟨#[100, 116]⟩, ⟨#[101, 109]⟩, ⟨#[101, 109, 98, 101, 100]⟩, ⟨#[104, 49]⟩, ⟨#[104, 50]⟩, ⟨#[104, 51]⟩, ⟨#[104, 52]⟩, ⟨#[104, 53]⟩, ⟨#[104, 54]⟩, ⟨#[104, 101, 97, 100]⟩, ⟨#[104, 114]⟩, ⟨#[105]⟩, ⟨#[105, 109, 103]⟩, ⟨#[108, 105]⟩, ⟨#[108, 105, 115, 116, 105, 110, 103]⟩, ⟨#[109, 101, 110, 117]⟩, ⟨#[109, 101, 116, 97]⟩, ⟨#[110, 111, 98, 114]⟩, ⟨#[111, 108]⟩, ⟨#[112]⟩, ⟨#[112, 114, 101]⟩, ⟨#[114, 117, 98, 121]⟩, ⟨#[115]⟩, ⟨#[115, 109, 97, 108, 108]⟩, ⟨#[115, 112, 97, 110]⟩, ⟨#[115, 116, 114, 111, 110, 103]⟩, ⟨#[115, 116, 114, 105, 107, 101]⟩, ⟨#[115, 117, 98]⟩, ⟨#[115, 117, 112]⟩, ⟨#[116, 97, 98, 108, 101]⟩, ⟨#[116, 116]⟩, ⟨#[117]⟩, ⟨#[117, 108]⟩, ⟨#[118, 97, 114]⟩]
def isMany (s : ByteArray) : Bool := inl s many
def isFont (s : ByteArray) : Bool := s.toList == [102, 111, 110, 116]
def brs (mn : ByteArray) (l : List (ByteArray × ByteArray)) : Bool := isMany mn || (isFont mn && anyC l)
def brk (kind : Int) (mn : ByteArray) (l : List (ByteArray × ByteArray)) : Bool :=
  if kind = 2 then brs mn l else if kind = 3 then inl mn [⟨#[98, 114]⟩, ⟨#[112]⟩] else false

theorem beq_flip (a b : List UInt8) : (a == b) = (b == a) := by
  rw [Bool.eq_iff_iff, beq_iff_eq, beq_iff_eq]; exact eq_comm
theorem many_eq (s : ByteArray) : isMany s = (s.toList == [98] || (s.toList == [98, 105, 103] || (s.toList == [98, 108, 111, 99, 107, 113, 117, 111, 116, 101] || (s.toList == [98, 111, 100, 121] || (s.toList == [98, 114] || (s.toList == [99, 101, 110, 116, 101, 114] || (s.toList == [99, 111, 100, 101] || (s.toList == [100, 100] || (s.toList == [100, 105, 118] || (s.toList == [100, 108] || (s.toList == [100, 116] || (s.toList == [101, 109] || (s.toList == [101, 109, 98, 101, 100] || (s.toList == [104, 49] || (s.toList == [104, 50] || (s.toList == [104, 51] || (s.toList == [104, 52] || (s.toList == [104, 53] || (s.toList == [104, 54] || (s.toList == [104, 101, 97, 100] || (s.toList == [104, 114] || (s.toList == [105] || (s.toList == [105, 109, 103] || (s.toList == [108, 105] || (s.toList == [108, 105, 115, 116, 105, 110, 103] || (s.toList == [109, 101, 110, 117] || (s.toList == [109, 101, 116, 97] || (s.toList == [110, 111, 98, 114] || (s.toList == [111, 108] || (s.toList == [112] || (s.toList == [112, 114, 101] || (s.toList == [114, 117, 98, 121] || (s.toList == [115] || (s.toList == [115, 109, 97, 108, 108] || (s.toList == [115, 112, 97, 110] || (s.toList == [115, 116, 114, 111, 110, 103] || (s.toList == [115, 116, 114, 105, 107, 101] || (s.toList == [115, 117, 98] || (s.toList == [115, 117, 112] || (s.toList == [116, 97, 98, 108, 101] || (s.toList == [116, 116] || (s.toList == [117] || (s.toList == [117, 108] || s.toList == [118, 97, 114]))))))))))))))))))))))))))))))))))))))))))) := by
  simp only [isMany, inl, many, List.any_cons, List.any_nil, Bool.or_false, Lib.toList_data, beq_flip s.data.toList]
theorem inl_brp (s : ByteArray) : inl s [⟨#[98, 114]⟩, ⟨#[112]⟩] = (s.toList == [98, 114] || s.toList == [112]) := by
  simp only [inl, List.any_cons, List.any_nil, Bool.or_false, Lib.toList_data, beq_flip s.data.toList]

set_option maxHeartbeats 8000000 in
theorem start_any (kind : Int) (mn : ByteArray) (a : Option Addr) (n c : Nat) (sf : Bool) (tx : ByteArray) (l : List (ByteArray × ByteArray)) (w : World) (h : Attrs w a n l) :
    Calls Try.prog 23 #[.agg #[.int .i64 kind, .string mn, .slice a n c, .bool sf, .string tx]] w fun e w' => e = .returned (.bool (brs mn l)) ∧ Below w.heap.size w w' := by
  have hc : ∀ wx, Below w.heap.size w wx → Calls Try.prog 31 #[.slice a n c, .func (.func 32) #[] #[]] wx fun e w' => e = .returned (.bool (anyC l)) ∧ Below wx.heap.size wx w' := fun wx hb => contains_any wx a n c l (h.below hb)
  have h0 : HasM _ _ _ _ _ _ _ := HasM.new w kind mn (.slice a n c) sf tx
  have hb0 : Below w.heap.size w (w.alloc (.cells #[.int .i64 kind, .string mn, .slice a n c, .bool sf, .string tx] 24 (0, 0))) := (Below.refl _ _).alloc (Nat.le_refl _) _
  generalize hr : brs mn l = r
  have H0 := Lib.hid h0
  have B0 := Lib.hid hb0
  have HC := Lib.hid hc
  clear h h0 hb0 hc
  cases hm : isMany mn
  · rw [many_eq] at hm
    simp only [Bool.or_eq_false_iff] at hm
    obtain ⟨f0, f1, f2, f3, f4, f5, f6, f7, f8, f9, f10, f11, f12, f13, f14, f15, f16, f17, f18, f19, f20, f21, f22, f23, f24, f25, f26, f27, f28, f29, f30, f31, f32, f33, f34, f35, f36, f37, f38, f39, f40, f41, f42, f43⟩ := hm
    have hm : isMany mn = false := by rw [many_eq]; simp only [f0, f1, f2, f3, f4, f5, f6, f7, f8, f9, f10, f11, f12, f13, f14, f15, f16, f17, f18, f19, f20, f21, f22, f23, f24, f25, f26, f27, f28, f29, f30, f31, f32, f33, f34, f35, f36, f37, f38, f39, f40, f41, f42, f43, Bool.or_false]
    cases hf : (mn.toList == [102, 111, 110, 116])
    · have HV : Hid (r = false) := Lib.hid (by rw [← hr]; simp [brs, hm, isFont, hf])
      clear hr hm
      go_enter Try.func23, Try.ntmps23
      go_wp2
      go_ret
      exact ⟨ret_bool HV.out.symm, B0.out⟩
    · have HV : Hid (r = anyC l) := Lib.hid (by rw [← hr]; simp [brs, hm, isFont, hf])
      clear hr hm
      go_enter Try.func23, Try.ntmps23
      go_wp2_with fail
      refine (HC.out _ B0.out).mono ?_; rintro e w1 ⟨rfl, hb⟩
      have HB := Lib.hid (B0.out.trans (hb.mono B0.out.size))
      clear hb
      go_wp2
      go_ret
      exact ⟨ret_bool HV.out.symm, HB.out⟩
  · have HV : Hid (r = true) := Lib.hid (by rw [← hr]; simp [brs, hm])
    have HM := Lib.hid hm
    clear hr hm
    go_enter Try.func23, Try.ntmps23
    go_wp2_with fail
    all_goals first
      | (go_ret; exact ⟨ret_bool HV.out.symm, B0.out⟩)
      | (exfalso; have hm := HM.out; rw [many_eq] at hm; clear H0 B0 HC HV HM; simp_all)

set_option maxHeartbeats 2000000 in
theorem breaks_any (kind : Int) (mn : ByteArray) (a : Option Addr) (n c : Nat) (sf : Bool) (tx : ByteArray) (l : List (ByteArray × ByteArray)) (w : World) (h : Attrs w a n l) :
    Calls Try.prog 13 #[.agg #[.int .i64 kind, .string mn, .slice a n c, .bool sf, .string tx]] w fun e w' => e = .returned (.bool (brk kind mn l)) ∧ Below w.heap.size w w' := by
  have hc : ∀ k wx, Below w.heap.size w wx → Calls Try.prog 23 #[.agg #[.int .i64 k, .string mn, .slice a n c, .bool sf, .string tx]] wx fun e w' => e = .returned (.bool (brs mn l)) ∧ Below wx.heap.size wx w' := fun k wx hb => start_any k mn a n c sf tx l wx (h.below hb)
  have h0 : HasM _ _ _ _ _ _ _ := HasM.new w kind mn (.slice a n c) sf tx
  have hb0 : Below w.heap.size w (w.alloc (.cells #[.int .i64 kind, .string mn, .slice a n c, .bool sf, .string tx] 24 (0, 0))) := (Below.refl _ _).alloc (Nat.le_refl _) _
  generalize hr : brk kind mn l = r
  have H0 := Lib.hid h0
  have B0 := Lib.hid hb0
  have HC := Lib.hid hc
  clear h h0 hb0 hc
  by_cases k2 : kind = 2
  · subst k2
    have HV : Hid (r = brs mn l) := Lib.hid (by rw [← hr]; simp [brk])
    clear hr
    go_enter Try.func13, Try.ntmps13
    go_wp2_with fail
    refine (HC.out _ _ B0.out).mono ?_; rintro e w1 ⟨rfl, hb⟩
    have HB := Lib.hid (B0.out.trans (hb.mono B0.out.size))
    clear hb
    go_wp2
    go_ret
    exact ⟨ret_bool HV.out.symm, HB.out⟩
  by_cases k3 : kind = 3
  · subst k3
    clear k2
    cases h1 : (mn.toList == [98, 114])
    · cases h2 : (mn.toList == [112])
      · have HV : Hid (r = false) := Lib.hid (by rw [← hr]; simp [brk, inl_brp, h1, h2])
        clear hr
        go_enter Try.func13, Try.ntmps13
        go_wp2
        go_ret
        exact ⟨ret_bool HV.out.symm, B0.out⟩
      · have HV : Hid (r = true) := Lib.hid (by rw [← hr]; simp [brk, inl_brp, h1, h2])
        clear hr
        go_enter Try.func13, Try.ntmps13
        go_wp2
        go_ret
        exact ⟨ret_bool HV.out.symm, B0.out⟩
    · have HV : Hid (r = true) := Lib.hid (by rw [← hr]; simp [brk, inl_brp, h1])
      clear hr
      go_enter Try.func13, Try.ntmps13
      go_wp2
      go_ret
      exact ⟨ret_bool HV.out.symm, B0.out⟩
  have b2 : (kind == 2) = false := beq_eq_false_iff_ne.2 k2
  have b3 : (kind == 3) = false := beq_eq_false_iff_ne.2 k3
  have HV : Hid (r = false) := Lib.hid (by rw [← hr]; simp [brk, k2, k3])
  clear hr
  go_enter Try.func13, Try.ntmps13
  go_wp2
  go_ret
  exact ⟨ret_bool HV.out.symm, B0.out⟩
end Go.Proofs.Ytopmahhlebkjiaa
