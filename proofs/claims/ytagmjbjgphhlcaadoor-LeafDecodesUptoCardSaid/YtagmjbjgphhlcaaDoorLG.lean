/- An encoding's label: the program's. -/
import Derived.Test.YtagmjbjgphhlcaaDoorLF
import Derived.Test.YtagmjbjgphhlcaaDoorLS
import Derived.Lib.Itoa
set_option linter.unusedVariables false
namespace Go.Proofs.YtagmjbjgphhlcaaDoor
open Go.RowKit Go.Shelf

def spaces : List UInt8 := [9, 10, 12, 13, 32]
def cutset : ByteArray := ⟨#[9, 10, 12, 13, 32]⟩
theorem trim_any (s : ByteArray) (w : World) (hs : s.size ≤ 9223372036854775807) :
    Calls Tryd.prog 29 #[.string s, .string cutset] w fun e w' => e = .returned (.string ⟨(Lib.trimS s.data.toList spaces).toArray⟩) ∧ Below w.heap.size w w' :=
  Any.strings_Trim_laid Tryd.lays160 (by kernel_rfl) s cutset w hs (by decide) (ascii_of_all (by decide))

def labs1 : List (List UInt8) := [[117, 116, 102, 45, 56], [117, 116, 102, 56], [117, 110, 105, 99, 111, 100, 101, 45, 49, 45, 49, 45, 117, 116, 102, 45, 56], [117, 110, 105, 99, 111, 100, 101, 49, 49, 117, 116, 102, 56], [117, 110, 105, 99, 111, 100, 101, 50, 48, 117, 116, 102, 56], [120, 45, 117, 110, 105, 99, 111, 100, 101, 50, 48, 117, 116, 102, 56]]
def labs2 : List (List UInt8) := [[119, 105, 110, 100, 111, 119, 115, 45, 49, 50, 53, 50], [99, 112, 49, 50, 53, 50], [120, 45, 99, 112, 49, 50, 53, 50], [105, 115, 111, 45, 56, 56, 53, 57, 45, 49], [105, 115, 111, 56, 56, 53, 57, 45, 49], [105, 115, 111, 56, 56, 53, 57, 49], [105, 115, 111, 95, 56, 56, 53, 57, 45, 49], [108, 97, 116, 105, 110, 49], [108, 49], [97, 115, 99, 105, 105], [117, 115, 45, 97, 115, 99, 105, 105]]
def labs3 : List (List UInt8) := [[117, 116, 102, 45, 49, 54], [117, 116, 102, 45, 49, 54, 108, 101], [117, 116, 102, 45, 49, 54, 98, 101], [117, 110, 105, 99, 111, 100, 101], [117, 99, 115, 45, 50]]
def labOf (l : List UInt8) : Nat := if labs1.any (l == ·) = true then 1 else if labs2.any (l == ·) = true then 2 else if labs3.any (l == ·) = true then 3 else 0
def wordOf (l : List UInt8) : List UInt8 := (Lib.trimS l spaces).map lwr
theorem toList_data' (s : ByteArray) : s.toList = s.data.toList := Lib.toList_data s

set_option maxHeartbeats 8000000 in
set_option maxRecDepth 100000 in
theorem label_word (X T U : ByteArray) (w : World) (ht : ∀ wx, Calls Tryd.prog 29 #[.string X, .string cutset] wx fun e w' => e = .returned (.string T) ∧ Below wx.heap.size wx w')
    (hu : ∀ wx, Calls Tryd.prog 28 #[.string T] wx fun e w' => e = .returned (.string U) ∧ Below wx.heap.size wx w') :
    Calls Tryd.prog 20 #[.string X] w fun e w' => e = .returned (.int .i64 (labOf U.toList : Nat)) ∧ Below w.heap.size w w' := by
  generalize hr : labOf U.toList = r
  have HT := Lib.hid ht
  have HU := Lib.hid hu
  clear ht hu
  cases h0 : (U.toList == [117, 116, 102, 45, 56])
  rotate_left
  · have HV : Hid (r = 1) := Lib.hid (by rw [← hr]; simp [labOf, labs1, h0])
    clear hr
    go_enter Tryd.func20, Tryd.ntmps20
    go_wp2_with fail
    refine (HT.out _).mono ?_; rintro e w1 ⟨rfl, hb⟩
    have HB := Lib.hid hb
    clear hb
    go_wp2_with fail
    refine (HU.out _).mono ?_; rintro e w2 ⟨rfl, hb⟩
    have HB2 := Lib.hid (HB.out.trans (hb.mono HB.out.size))
    clear hb
    go_wp2
    go_ret
    exact ⟨ret_int (by rw [HV.out]; rfl), HB2.out⟩
  cases h1 : (U.toList == [117, 116, 102, 56])
  rotate_left
  · have HV : Hid (r = 1) := Lib.hid (by rw [← hr]; simp [labOf, labs1, h0, h1])
    clear hr
    go_enter Tryd.func20, Tryd.ntmps20
    go_wp2_with fail
    refine (HT.out _).mono ?_; rintro e w1 ⟨rfl, hb⟩
    have HB := Lib.hid hb
    clear hb
    go_wp2_with fail
    refine (HU.out _).mono ?_; rintro e w2 ⟨rfl, hb⟩
    have HB2 := Lib.hid (HB.out.trans (hb.mono HB.out.size))
    clear hb
    go_wp2
    go_ret
    exact ⟨ret_int (by rw [HV.out]; rfl), HB2.out⟩
  cases h2 : (U.toList == [117, 110, 105, 99, 111, 100, 101, 45, 49, 45, 49, 45, 117, 116, 102, 45, 56])
  rotate_left
  · have HV : Hid (r = 1) := Lib.hid (by rw [← hr]; simp [labOf, labs1, h0, h1, h2])
    clear hr
    go_enter Tryd.func20, Tryd.ntmps20
    go_wp2_with fail
    refine (HT.out _).mono ?_; rintro e w1 ⟨rfl, hb⟩
    have HB := Lib.hid hb
    clear hb
    go_wp2_with fail
    refine (HU.out _).mono ?_; rintro e w2 ⟨rfl, hb⟩
    have HB2 := Lib.hid (HB.out.trans (hb.mono HB.out.size))
    clear hb
    go_wp2
    go_ret
    exact ⟨ret_int (by rw [HV.out]; rfl), HB2.out⟩
  cases h3 : (U.toList == [117, 110, 105, 99, 111, 100, 101, 49, 49, 117, 116, 102, 56])
  rotate_left
  · have HV : Hid (r = 1) := Lib.hid (by rw [← hr]; simp [labOf, labs1, h0, h1, h2, h3])
    clear hr
    go_enter Tryd.func20, Tryd.ntmps20
    go_wp2_with fail
    refine (HT.out _).mono ?_; rintro e w1 ⟨rfl, hb⟩
    have HB := Lib.hid hb
    clear hb
    go_wp2_with fail
    refine (HU.out _).mono ?_; rintro e w2 ⟨rfl, hb⟩
    have HB2 := Lib.hid (HB.out.trans (hb.mono HB.out.size))
    clear hb
    go_wp2
    go_ret
    exact ⟨ret_int (by rw [HV.out]; rfl), HB2.out⟩
  cases h4 : (U.toList == [117, 110, 105, 99, 111, 100, 101, 50, 48, 117, 116, 102, 56])
  rotate_left
  · have HV : Hid (r = 1) := Lib.hid (by rw [← hr]; simp [labOf, labs1, h0, h1, h2, h3, h4])
    clear hr
    go_enter Tryd.func20, Tryd.ntmps20
    go_wp2_with fail
    refine (HT.out _).mono ?_; rintro e w1 ⟨rfl, hb⟩
    have HB := Lib.hid hb
    clear hb
    go_wp2_with fail
    refine (HU.out _).mono ?_; rintro e w2 ⟨rfl, hb⟩
    have HB2 := Lib.hid (HB.out.trans (hb.mono HB.out.size))
    clear hb
    go_wp2
    go_ret
    exact ⟨ret_int (by rw [HV.out]; rfl), HB2.out⟩
  cases h5 : (U.toList == [120, 45, 117, 110, 105, 99, 111, 100, 101, 50, 48, 117, 116, 102, 56])
  rotate_left
  · have HV : Hid (r = 1) := Lib.hid (by rw [← hr]; simp [labOf, labs1, h0, h1, h2, h3, h4, h5])
    clear hr
    go_enter Tryd.func20, Tryd.ntmps20
    go_wp2_with fail
    refine (HT.out _).mono ?_; rintro e w1 ⟨rfl, hb⟩
    have HB := Lib.hid hb
    clear hb
    go_wp2_with fail
    refine (HU.out _).mono ?_; rintro e w2 ⟨rfl, hb⟩
    have HB2 := Lib.hid (HB.out.trans (hb.mono HB.out.size))
    clear hb
    go_wp2
    go_ret
    exact ⟨ret_int (by rw [HV.out]; rfl), HB2.out⟩
  cases h6 : (U.toList == [119, 105, 110, 100, 111, 119, 115, 45, 49, 50, 53, 50])
  rotate_left
  · have HV : Hid (r = 2) := Lib.hid (by rw [← hr]; simp [labOf, labs1, labs2, h0, h1, h2, h3, h4, h5, h6])
    clear hr
    go_enter Tryd.func20, Tryd.ntmps20
    go_wp2_with fail
    refine (HT.out _).mono ?_; rintro e w1 ⟨rfl, hb⟩
    have HB := Lib.hid hb
    clear hb
    go_wp2_with fail
    refine (HU.out _).mono ?_; rintro e w2 ⟨rfl, hb⟩
    have HB2 := Lib.hid (HB.out.trans (hb.mono HB.out.size))
    clear hb
    go_wp2
    go_ret
    exact ⟨ret_int (by rw [HV.out]; rfl), HB2.out⟩
  cases h7 : (U.toList == [99, 112, 49, 50, 53, 50])
  rotate_left
  · have HV : Hid (r = 2) := Lib.hid (by rw [← hr]; simp [labOf, labs1, labs2, h0, h1, h2, h3, h4, h5, h6, h7])
    clear hr
    go_enter Tryd.func20, Tryd.ntmps20
    go_wp2_with fail
    refine (HT.out _).mono ?_; rintro e w1 ⟨rfl, hb⟩
    have HB := Lib.hid hb
    clear hb
    go_wp2_with fail
    refine (HU.out _).mono ?_; rintro e w2 ⟨rfl, hb⟩
    have HB2 := Lib.hid (HB.out.trans (hb.mono HB.out.size))
    clear hb
    go_wp2
    go_ret
    exact ⟨ret_int (by rw [HV.out]; rfl), HB2.out⟩
  cases h8 : (U.toList == [120, 45, 99, 112, 49, 50, 53, 50])
  rotate_left
  · have HV : Hid (r = 2) := Lib.hid (by rw [← hr]; simp [labOf, labs1, labs2, h0, h1, h2, h3, h4, h5, h6, h7, h8])
    clear hr
    go_enter Tryd.func20, Tryd.ntmps20
    go_wp2_with fail
    refine (HT.out _).mono ?_; rintro e w1 ⟨rfl, hb⟩
    have HB := Lib.hid hb
    clear hb
    go_wp2_with fail
    refine (HU.out _).mono ?_; rintro e w2 ⟨rfl, hb⟩
    have HB2 := Lib.hid (HB.out.trans (hb.mono HB.out.size))
    clear hb
    go_wp2
    go_ret
    exact ⟨ret_int (by rw [HV.out]; rfl), HB2.out⟩
  cases h9 : (U.toList == [105, 115, 111, 45, 56, 56, 53, 57, 45, 49])
  rotate_left
  · have HV : Hid (r = 2) := Lib.hid (by rw [← hr]; simp [labOf, labs1, labs2, h0, h1, h2, h3, h4, h5, h6, h7, h8, h9])
    clear hr
    go_enter Tryd.func20, Tryd.ntmps20
    go_wp2_with fail
    refine (HT.out _).mono ?_; rintro e w1 ⟨rfl, hb⟩
    have HB := Lib.hid hb
    clear hb
    go_wp2_with fail
    refine (HU.out _).mono ?_; rintro e w2 ⟨rfl, hb⟩
    have HB2 := Lib.hid (HB.out.trans (hb.mono HB.out.size))
    clear hb
    go_wp2
    go_ret
    exact ⟨ret_int (by rw [HV.out]; rfl), HB2.out⟩
  cases h10 : (U.toList == [105, 115, 111, 56, 56, 53, 57, 45, 49])
  rotate_left
  · have HV : Hid (r = 2) := Lib.hid (by rw [← hr]; simp [labOf, labs1, labs2, h0, h1, h2, h3, h4, h5, h6, h7, h8, h9, h10])
    clear hr
    go_enter Tryd.func20, Tryd.ntmps20
    go_wp2_with fail
    refine (HT.out _).mono ?_; rintro e w1 ⟨rfl, hb⟩
    have HB := Lib.hid hb
    clear hb
    go_wp2_with fail
    refine (HU.out _).mono ?_; rintro e w2 ⟨rfl, hb⟩
    have HB2 := Lib.hid (HB.out.trans (hb.mono HB.out.size))
    clear hb
    go_wp2
    go_ret
    exact ⟨ret_int (by rw [HV.out]; rfl), HB2.out⟩
  cases h11 : (U.toList == [105, 115, 111, 56, 56, 53, 57, 49])
  rotate_left
  · have HV : Hid (r = 2) := Lib.hid (by rw [← hr]; simp [labOf, labs1, labs2, h0, h1, h2, h3, h4, h5, h6, h7, h8, h9, h10, h11])
    clear hr
    go_enter Tryd.func20, Tryd.ntmps20
    go_wp2_with fail
    refine (HT.out _).mono ?_; rintro e w1 ⟨rfl, hb⟩
    have HB := Lib.hid hb
    clear hb
    go_wp2_with fail
    refine (HU.out _).mono ?_; rintro e w2 ⟨rfl, hb⟩
    have HB2 := Lib.hid (HB.out.trans (hb.mono HB.out.size))
    clear hb
    go_wp2
    go_ret
    exact ⟨ret_int (by rw [HV.out]; rfl), HB2.out⟩
  cases h12 : (U.toList == [105, 115, 111, 95, 56, 56, 53, 57, 45, 49])
  rotate_left
  · have HV : Hid (r = 2) := Lib.hid (by rw [← hr]; simp [labOf, labs1, labs2, h0, h1, h2, h3, h4, h5, h6, h7, h8, h9, h10, h11, h12])
    clear hr
    go_enter Tryd.func20, Tryd.ntmps20
    go_wp2_with fail
    refine (HT.out _).mono ?_; rintro e w1 ⟨rfl, hb⟩
    have HB := Lib.hid hb
    clear hb
    go_wp2_with fail
    refine (HU.out _).mono ?_; rintro e w2 ⟨rfl, hb⟩
    have HB2 := Lib.hid (HB.out.trans (hb.mono HB.out.size))
    clear hb
    go_wp2
    go_ret
    exact ⟨ret_int (by rw [HV.out]; rfl), HB2.out⟩
  cases h13 : (U.toList == [108, 97, 116, 105, 110, 49])
  rotate_left
  · have HV : Hid (r = 2) := Lib.hid (by rw [← hr]; simp [labOf, labs1, labs2, h0, h1, h2, h3, h4, h5, h6, h7, h8, h9, h10, h11, h12, h13])
    clear hr
    go_enter Tryd.func20, Tryd.ntmps20
    go_wp2_with fail
    refine (HT.out _).mono ?_; rintro e w1 ⟨rfl, hb⟩
    have HB := Lib.hid hb
    clear hb
    go_wp2_with fail
    refine (HU.out _).mono ?_; rintro e w2 ⟨rfl, hb⟩
    have HB2 := Lib.hid (HB.out.trans (hb.mono HB.out.size))
    clear hb
    go_wp2
    go_ret
    exact ⟨ret_int (by rw [HV.out]; rfl), HB2.out⟩
  cases h14 : (U.toList == [108, 49])
  rotate_left
  · have HV : Hid (r = 2) := Lib.hid (by rw [← hr]; simp [labOf, labs1, labs2, h0, h1, h2, h3, h4, h5, h6, h7, h8, h9, h10, h11, h12, h13, h14])
    clear hr
    go_enter Tryd.func20, Tryd.ntmps20
    go_wp2_with fail
    refine (HT.out _).mono ?_; rintro e w1 ⟨rfl, hb⟩
    have HB := Lib.hid hb
    clear hb
    go_wp2_with fail
    refine (HU.out _).mono ?_; rintro e w2 ⟨rfl, hb⟩
    have HB2 := Lib.hid (HB.out.trans (hb.mono HB.out.size))
    clear hb
    go_wp2
    go_ret
    exact ⟨ret_int (by rw [HV.out]; rfl), HB2.out⟩
  cases h15 : (U.toList == [97, 115, 99, 105, 105])
  rotate_left
  · have HV : Hid (r = 2) := Lib.hid (by rw [← hr]; simp [labOf, labs1, labs2, h0, h1, h2, h3, h4, h5, h6, h7, h8, h9, h10, h11, h12, h13, h14, h15])
    clear hr
    go_enter Tryd.func20, Tryd.ntmps20
    go_wp2_with fail
    refine (HT.out _).mono ?_; rintro e w1 ⟨rfl, hb⟩
    have HB := Lib.hid hb
    clear hb
    go_wp2_with fail
    refine (HU.out _).mono ?_; rintro e w2 ⟨rfl, hb⟩
    have HB2 := Lib.hid (HB.out.trans (hb.mono HB.out.size))
    clear hb
    go_wp2
    go_ret
    exact ⟨ret_int (by rw [HV.out]; rfl), HB2.out⟩
  cases h16 : (U.toList == [117, 115, 45, 97, 115, 99, 105, 105])
  rotate_left
  · have HV : Hid (r = 2) := Lib.hid (by rw [← hr]; simp [labOf, labs1, labs2, h0, h1, h2, h3, h4, h5, h6, h7, h8, h9, h10, h11, h12, h13, h14, h15, h16])
    clear hr
    go_enter Tryd.func20, Tryd.ntmps20
    go_wp2_with fail
    refine (HT.out _).mono ?_; rintro e w1 ⟨rfl, hb⟩
    have HB := Lib.hid hb
    clear hb
    go_wp2_with fail
    refine (HU.out _).mono ?_; rintro e w2 ⟨rfl, hb⟩
    have HB2 := Lib.hid (HB.out.trans (hb.mono HB.out.size))
    clear hb
    go_wp2
    go_ret
    exact ⟨ret_int (by rw [HV.out]; rfl), HB2.out⟩
  cases h17 : (U.toList == [117, 116, 102, 45, 49, 54])
  rotate_left
  · have HV : Hid (r = 3) := Lib.hid (by rw [← hr]; simp [labOf, labs1, labs2, labs3, h0, h1, h2, h3, h4, h5, h6, h7, h8, h9, h10, h11, h12, h13, h14, h15, h16, h17])
    clear hr
    go_enter Tryd.func20, Tryd.ntmps20
    go_wp2_with fail
    refine (HT.out _).mono ?_; rintro e w1 ⟨rfl, hb⟩
    have HB := Lib.hid hb
    clear hb
    go_wp2_with fail
    refine (HU.out _).mono ?_; rintro e w2 ⟨rfl, hb⟩
    have HB2 := Lib.hid (HB.out.trans (hb.mono HB.out.size))
    clear hb
    go_wp2
    go_ret
    exact ⟨ret_int (by rw [HV.out]; rfl), HB2.out⟩
  cases h18 : (U.toList == [117, 116, 102, 45, 49, 54, 108, 101])
  rotate_left
  · have HV : Hid (r = 3) := Lib.hid (by rw [← hr]; simp [labOf, labs1, labs2, labs3, h0, h1, h2, h3, h4, h5, h6, h7, h8, h9, h10, h11, h12, h13, h14, h15, h16, h17, h18])
    clear hr
    go_enter Tryd.func20, Tryd.ntmps20
    go_wp2_with fail
    refine (HT.out _).mono ?_; rintro e w1 ⟨rfl, hb⟩
    have HB := Lib.hid hb
    clear hb
    go_wp2_with fail
    refine (HU.out _).mono ?_; rintro e w2 ⟨rfl, hb⟩
    have HB2 := Lib.hid (HB.out.trans (hb.mono HB.out.size))
    clear hb
    go_wp2
    go_ret
    exact ⟨ret_int (by rw [HV.out]; rfl), HB2.out⟩
  cases h19 : (U.toList == [117, 116, 102, 45, 49, 54, 98, 101])
  rotate_left
  · have HV : Hid (r = 3) := Lib.hid (by rw [← hr]; simp [labOf, labs1, labs2, labs3, h0, h1, h2, h3, h4, h5, h6, h7, h8, h9, h10, h11, h12, h13, h14, h15, h16, h17, h18, h19])
    clear hr
    go_enter Tryd.func20, Tryd.ntmps20
    go_wp2_with fail
    refine (HT.out _).mono ?_; rintro e w1 ⟨rfl, hb⟩
    have HB := Lib.hid hb
    clear hb
    go_wp2_with fail
    refine (HU.out _).mono ?_; rintro e w2 ⟨rfl, hb⟩
    have HB2 := Lib.hid (HB.out.trans (hb.mono HB.out.size))
    clear hb
    go_wp2
    go_ret
    exact ⟨ret_int (by rw [HV.out]; rfl), HB2.out⟩
  cases h20 : (U.toList == [117, 110, 105, 99, 111, 100, 101])
  rotate_left
  · have HV : Hid (r = 3) := Lib.hid (by rw [← hr]; simp [labOf, labs1, labs2, labs3, h0, h1, h2, h3, h4, h5, h6, h7, h8, h9, h10, h11, h12, h13, h14, h15, h16, h17, h18, h19, h20])
    clear hr
    go_enter Tryd.func20, Tryd.ntmps20
    go_wp2_with fail
    refine (HT.out _).mono ?_; rintro e w1 ⟨rfl, hb⟩
    have HB := Lib.hid hb
    clear hb
    go_wp2_with fail
    refine (HU.out _).mono ?_; rintro e w2 ⟨rfl, hb⟩
    have HB2 := Lib.hid (HB.out.trans (hb.mono HB.out.size))
    clear hb
    go_wp2
    go_ret
    exact ⟨ret_int (by rw [HV.out]; rfl), HB2.out⟩
  cases h21 : (U.toList == [117, 99, 115, 45, 50])
  rotate_left
  · have HV : Hid (r = 3) := Lib.hid (by rw [← hr]; simp [labOf, labs1, labs2, labs3, h0, h1, h2, h3, h4, h5, h6, h7, h8, h9, h10, h11, h12, h13, h14, h15, h16, h17, h18, h19, h20, h21])
    clear hr
    go_enter Tryd.func20, Tryd.ntmps20
    go_wp2_with fail
    refine (HT.out _).mono ?_; rintro e w1 ⟨rfl, hb⟩
    have HB := Lib.hid hb
    clear hb
    go_wp2_with fail
    refine (HU.out _).mono ?_; rintro e w2 ⟨rfl, hb⟩
    have HB2 := Lib.hid (HB.out.trans (hb.mono HB.out.size))
    clear hb
    go_wp2
    go_ret
    exact ⟨ret_int (by rw [HV.out]; rfl), HB2.out⟩
  have HV : Hid (r = 0) := Lib.hid (by rw [← hr]; simp [labOf, labs1, labs2, labs3, h0, h1, h2, h3, h4, h5, h6, h7, h8, h9, h10, h11, h12, h13, h14, h15, h16, h17, h18, h19, h20, h21])
  clear hr
  go_enter Tryd.func20, Tryd.ntmps20
  go_wp2_with fail
  refine (HT.out _).mono ?_; rintro e w1 ⟨rfl, hb⟩
  have HB := Lib.hid hb
  clear hb
  go_wp2_with fail
  refine (HU.out _).mono ?_; rintro e w2 ⟨rfl, hb⟩
  have HB2 := Lib.hid (HB.out.trans (hb.mono HB.out.size))
  clear hb
  go_wp2
  go_ret
  exact ⟨ret_int (by rw [HV.out]; rfl), HB2.out⟩

theorem trim_len (l cs : List UInt8) : (Lib.trimS l cs).length ≤ l.length := by
  have h1 : ∀ (p : UInt8 → Bool) (m : List UInt8), (m.dropWhile p).length ≤ m.length := fun p m => (List.dropWhile_sublist p).length_le
  unfold Lib.trimS Lib.trimLeftS Lib.trimRightS
  have a := h1 (cs.contains ·) (l.reverse.dropWhile (cs.contains ·)).reverse
  have b := h1 (cs.contains ·) l.reverse
  simp only [List.length_reverse] at a b
  omega
theorem label_any (X : ByteArray) (w : World) (hs : X.size ≤ 9223372036854775807) :
    Calls Tryd.prog 20 #[.string X] w fun e w' => e = .returned (.int .i64 (labOf (wordOf X.data.toList) : Nat)) ∧ Below w.heap.size w w' := by
  have hl : (⟨(Lib.trimS X.data.toList spaces).toArray⟩ : ByteArray).size ≤ 9223372036854775807 := by
    have := trim_len X.data.toList spaces
    show (Lib.trimS X.data.toList spaces).toArray.size ≤ _
    have hx : X.data.toList.length = X.size := by simp
    simp; omega
  have hu := fun wx => lower_any ⟨(Lib.trimS X.data.toList spaces).toArray⟩ wx hl
  have := label_word X _ _ w (fun wx => trim_any X wx hs) hu
  rw [toList_data'] at this
  simpa only [wordOf, List.toList_toArray] using this
end Go.Proofs.YtagmjbjgphhlcaaDoor
