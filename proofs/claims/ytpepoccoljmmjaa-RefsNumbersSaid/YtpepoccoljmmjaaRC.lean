/- A name's characters: the program's. -/
import Derived.Test.YtpepoccoljmmjaaLB
import Derived.Test.YtpepoccoljmmjaaRB
import Derived.Test.YtpepoccoljmmjaaS
set_option linter.unusedVariables false
namespace Go.Proofs.Ytpepoccoljmmjaa
open Go.RowKit Go.Shelf

theorem toList_data' (s : ByteArray) : s.toList = s.data.toList := Lib.toList_data s
/-- a large letter made small -/
def lwr (c : UInt8) : UInt8 := if 65 ≤ c.toNat ∧ c.toNat ≤ 90 then UInt8.ofNat (c.toNat + 32) else c

theorem small_any (c : UInt8) (w : World) :
    Calls Try.prog 38 #[.int .u8 c.toNat] w fun e w' => e = .returned (.int .u8 (lwr c).toNat) ∧ w = w' := by
  have h255 : (c.toNat : Int) ≤ 255 := by have := c.toNat_lt; omega
  obtain ⟨x, hx⟩ : ∃ x : Int, x = (c.toNat : Int) := ⟨_, rfl⟩
  have h0 : 0 ≤ x := by omega
  rw [← hx] at h255 ⊢
  by_cases h1 : 65 ≤ x
  · by_cases h2 : x ≤ 90
    · have hv : Hid (((lwr c).toNat : Int) = x - 65 + 97) := Lib.hid (by unfold lwr; rw [if_pos (by omega), UInt8.toNat_ofNat']; omega)
      clear hx
      go_enter Try.func38, Try.ntmps38
      go_wp2
      go_ret
      exact ⟨ret_int hv.out.symm, rfl⟩
    · have hv : Hid (((lwr c).toNat : Int) = x) := Lib.hid (by unfold lwr; rw [if_neg (by omega)]; exact hx.symm)
      clear hx
      go_enter Try.func38, Try.ntmps38
      go_wp2
      go_ret
      exact ⟨ret_int hv.out.symm, rfl⟩
  · have hv : Hid (((lwr c).toNat : Int) = x) := Lib.hid (by unfold lwr; rw [if_neg (by omega)]; exact hx.symm)
    clear hx
    go_enter Try.func38, Try.ntmps38
    go_wp2
    go_ret
    exact ⟨ret_int hv.out.symm, rfl⟩

theorem data_mk (l : List UInt8) : (ByteArray.mk l.toArray).data.toList = l := by simp

theorem size_mk (l : List UInt8) : (ByteArray.mk l.toArray).size = l.length := by show l.toArray.size = _; simp

theorem len_data (X : ByteArray) : X.data.toList.length = X.size := by simp

theorem byte_at (X : ByteArray) (k : Nat) (h : k < X.size) : X[k] = X.data.toList[k]'(by simpa using h) := by simp; rfl

theorem ext_list (X : ByteArray) (a b : Nat) (h : b ≤ X.size) : (X.extract a b).data.toList = (X.data.toList.take b).drop a := by
  rw [ByteArray.data_extract, Array.toList_extract, List.drop_take]

theorem ext_mk (X : ByteArray) (a b : Nat) (h : b ≤ X.size) : X.extract a b = ⟨((X.data.toList.take b).drop a).toArray⟩ := by
  apply ByteArray.ext
  rw [← ext_list X a b h]

theorem mk_data (X : ByteArray) : (⟨X.data.toList.toArray⟩ : ByteArray) = X := by apply ByteArray.ext; simp
theorem getD_at' {l : List UInt8} {j : Nat} (h : j < l.length) : l.getD j 0 = l[j] := by rw [List.getD_eq_getElem?_getD, List.getElem?_eq_getElem h]; rfl

theorem byte_getD (X : ByteArray) (k : Nat) (h : k < X.size) : X[k] = X.data.toList.getD k 0 := by
  rw [byte_at X k h, getD_at' (by rw [len_data]; exact h)]

theorem empty_beq {X : ByteArray} (h : X.size = 0) : X = ⟨#[]⟩ := by
  apply ByteArray.ext; exact Array.eq_empty_of_size_eq_zero h

theorem nonempty_beq {X : ByteArray} (h : 0 < X.size) : (X.toList == []) = false ∧ (X.toList != []) = true ∧ X.data.toList ≠ [] := by
  have hne : X.data.toList ≠ [] := by intro e; have := len_data X; rw [e] at this; simp at this; omega
  rw [toList_data']
  have : (X.data.toList == []) = false := by cases h : X.data.toList; exact absurd h hne; rfl
  exact ⟨this, by simp only [bne, this, Bool.not_false], hne⟩
theorem ext_drop (X : ByteArray) (k : Nat) : (X.extract k X.size).data.toList = X.data.toList.drop k := by
  rw [ext_list X k X.size (Nat.le_refl _), List.take_of_length_le (by rw [len_data]; exact Nat.le_refl _)]

theorem ext_size (X : ByteArray) (a b : Nat) (h : b ≤ X.size) : (X.extract a b).size = b - a := by rw [ByteArray.size_extract]; omega
theorem ret_str {a b : ByteArray} (h : a = b) : Ending.returned (.string a) = .returned (.string b) := by rw [h]
def bs (l : Bs) : ByteArray := ⟨l.toArray⟩
def markT : List (Bs × Bs) := [([104, 101, 108, 108, 105, 112], [226, 128, 166]), ([110, 100, 97, 115, 104], [226, 128, 147]), ([109, 100, 97, 115, 104], [226, 128, 148]), ([108, 115, 113, 117, 111], [226, 128, 152]), ([114, 115, 113, 117, 111], [226, 128, 153]), ([108, 100, 113, 117, 111], [226, 128, 156]), ([114, 100, 113, 117, 111], [226, 128, 157]), ([84, 97, 98], [9]), ([78, 101, 119, 76, 105, 110, 101], [10]), ([99, 111, 108, 111, 110], [58]), ([115, 111, 108], [47]), ([113, 117, 101, 115, 116], [63]), ([108, 112, 97, 114], [40]), ([122, 119, 106], [226, 128, 141])]
def markC (l : Bs) : Bs := (markT.lookup l).getD []
set_option maxHeartbeats 8000000 in
set_option maxRecDepth 100000 in
theorem loose_w (U : ByteArray) (w : World) :
    Calls Try.prog 50 #[.string U] w fun e w' => e = .returned (.string (bs (looseC U.toList))) ∧ w = w' := by
  obtain ⟨R, hR⟩ : ∃ R, R = looseC U.toList := ⟨_, rfl⟩
  rw [← hR]
  cases h0 : (U.toList == [97, 109, 112])
  rotate_left
  · have HV : Hid (R = [38]) := Lib.hid (by rw [hR, show U.toList = [97, 109, 112] from by simpa using h0]; decide +kernel)
    clear hR
    go_enter Try.func50, Try.ntmps50
    go_wp2
    go_ret
    exact ⟨ret_str (by rw [HV.out]; rfl), rfl⟩
  cases h1 : (U.toList == [65, 77, 80])
  rotate_left
  · have HV : Hid (R = [38]) := Lib.hid (by rw [hR, show U.toList = [65, 77, 80] from by simpa using h1]; decide +kernel)
    clear hR
    go_enter Try.func50, Try.ntmps50
    go_wp2
    go_ret
    exact ⟨ret_str (by rw [HV.out]; rfl), rfl⟩
  cases h2 : (U.toList == [108, 116])
  rotate_left
  · have HV : Hid (R = [60]) := Lib.hid (by rw [hR, show U.toList = [108, 116] from by simpa using h2]; decide +kernel)
    clear hR
    go_enter Try.func50, Try.ntmps50
    go_wp2
    go_ret
    exact ⟨ret_str (by rw [HV.out]; rfl), rfl⟩
  cases h3 : (U.toList == [76, 84])
  rotate_left
  · have HV : Hid (R = [60]) := Lib.hid (by rw [hR, show U.toList = [76, 84] from by simpa using h3]; decide +kernel)
    clear hR
    go_enter Try.func50, Try.ntmps50
    go_wp2
    go_ret
    exact ⟨ret_str (by rw [HV.out]; rfl), rfl⟩
  cases h4 : (U.toList == [103, 116])
  rotate_left
  · have HV : Hid (R = [62]) := Lib.hid (by rw [hR, show U.toList = [103, 116] from by simpa using h4]; decide +kernel)
    clear hR
    go_enter Try.func50, Try.ntmps50
    go_wp2
    go_ret
    exact ⟨ret_str (by rw [HV.out]; rfl), rfl⟩
  cases h5 : (U.toList == [113, 117, 111, 116])
  rotate_left
  · have HV : Hid (R = [34]) := Lib.hid (by rw [hR, show U.toList = [113, 117, 111, 116] from by simpa using h5]; decide +kernel)
    clear hR
    go_enter Try.func50, Try.ntmps50
    go_wp2
    go_ret
    exact ⟨ret_str (by rw [HV.out]; rfl), rfl⟩
  cases h6 : (U.toList == [110, 98, 115, 112])
  rotate_left
  · have HV : Hid (R = [194, 160]) := Lib.hid (by rw [hR, show U.toList = [110, 98, 115, 112] from by simpa using h6]; decide +kernel)
    clear hR
    go_enter Try.func50, Try.ntmps50
    go_wp2
    go_ret
    exact ⟨ret_str (by rw [HV.out]; rfl), rfl⟩
  cases h7 : (U.toList == [99, 111, 112, 121])
  rotate_left
  · have HV : Hid (R = [194, 169]) := Lib.hid (by rw [hR, show U.toList = [99, 111, 112, 121] from by simpa using h7]; decide +kernel)
    clear hR
    go_enter Try.func50, Try.ntmps50
    go_wp2
    go_ret
    exact ⟨ret_str (by rw [HV.out]; rfl), rfl⟩
  cases h8 : (U.toList == [114, 101, 103])
  rotate_left
  · have HV : Hid (R = [194, 174]) := Lib.hid (by rw [hR, show U.toList = [114, 101, 103] from by simpa using h8]; decide +kernel)
    clear hR
    go_enter Try.func50, Try.ntmps50
    go_wp2
    go_ret
    exact ⟨ret_str (by rw [HV.out]; rfl), rfl⟩
  cases h9 : (U.toList == [110, 111, 116])
  rotate_left
  · have HV : Hid (R = [194, 172]) := Lib.hid (by rw [hR, show U.toList = [110, 111, 116] from by simpa using h9]; decide +kernel)
    clear hR
    go_enter Try.func50, Try.ntmps50
    go_wp2
    go_ret
    exact ⟨ret_str (by rw [HV.out]; rfl), rfl⟩
  cases h10 : (U.toList == [112, 97, 114, 97])
  rotate_left
  · have HV : Hid (R = [194, 182]) := Lib.hid (by rw [hR, show U.toList = [112, 97, 114, 97] from by simpa using h10]; decide +kernel)
    clear hR
    go_enter Try.func50, Try.ntmps50
    go_wp2
    go_ret
    exact ⟨ret_str (by rw [HV.out]; rfl), rfl⟩
  cases h11 : (U.toList == [116, 105, 109, 101, 115])
  rotate_left
  · have HV : Hid (R = [195, 151]) := Lib.hid (by rw [hR, show U.toList = [116, 105, 109, 101, 115] from by simpa using h11]; decide +kernel)
    clear hR
    go_enter Try.func50, Try.ntmps50
    go_wp2
    go_ret
    exact ⟨ret_str (by rw [HV.out]; rfl), rfl⟩
  cases h12 : (U.toList == [100, 105, 118, 105, 100, 101])
  rotate_left
  · have HV : Hid (R = [195, 183]) := Lib.hid (by rw [hR, show U.toList = [100, 105, 118, 105, 100, 101] from by simpa using h12]; decide +kernel)
    clear hR
    go_enter Try.func50, Try.ntmps50
    go_wp2
    go_ret
    exact ⟨ret_str (by rw [HV.out]; rfl), rfl⟩
  cases h13 : (U.toList == [101, 97, 99, 117, 116, 101])
  rotate_left
  · have HV : Hid (R = [195, 169]) := Lib.hid (by rw [hR, show U.toList = [101, 97, 99, 117, 116, 101] from by simpa using h13]; decide +kernel)
    clear hR
    go_enter Try.func50, Try.ntmps50
    go_wp2
    go_ret
    exact ⟨ret_str (by rw [HV.out]; rfl), rfl⟩
  cases h14 : (U.toList == [69, 84, 72])
  rotate_left
  · have HV : Hid (R = [195, 144]) := Lib.hid (by rw [hR, show U.toList = [69, 84, 72] from by simpa using h14]; decide +kernel)
    clear hR
    go_enter Try.func50, Try.ntmps50
    go_wp2
    go_ret
    exact ⟨ret_str (by rw [HV.out]; rfl), rfl⟩
  cases h15 : (U.toList == [115, 122, 108, 105, 103])
  rotate_left
  · have HV : Hid (R = [195, 159]) := Lib.hid (by rw [hR, show U.toList = [115, 122, 108, 105, 103] from by simpa using h15]; decide +kernel)
    clear hR
    go_enter Try.func50, Try.ntmps50
    go_wp2
    go_ret
    exact ⟨ret_str (by rw [HV.out]; rfl), rfl⟩
  have HV : Hid (R = []) := Lib.hid (by rw [hR]; simp [looseC, looseT, List.lookup, h0, h1, h2, h3, h4, h5, h6, h7, h8, h9, h10, h11, h12, h13, h14, h15])
  clear hR
  go_enter Try.func50, Try.ntmps50
  go_wp2
  go_ret
  exact ⟨ret_str (by rw [HV.out]; rfl), rfl⟩

set_option maxHeartbeats 8000000 in
set_option maxRecDepth 100000 in
theorem mark_w (U : ByteArray) (w : World) :
    Calls Try.prog 61 #[.string U] w fun e w' => e = .returned (.string (bs (markC U.toList))) ∧ w = w' := by
  obtain ⟨R, hR⟩ : ∃ R, R = markC U.toList := ⟨_, rfl⟩
  rw [← hR]
  cases h0 : (U.toList == [104, 101, 108, 108, 105, 112])
  rotate_left
  · have HV : Hid (R = [226, 128, 166]) := Lib.hid (by rw [hR, show U.toList = [104, 101, 108, 108, 105, 112] from by simpa using h0]; decide +kernel)
    clear hR
    go_enter Try.func61, Try.ntmps61
    go_wp2
    go_ret
    exact ⟨ret_str (by rw [HV.out]; rfl), rfl⟩
  cases h1 : (U.toList == [110, 100, 97, 115, 104])
  rotate_left
  · have HV : Hid (R = [226, 128, 147]) := Lib.hid (by rw [hR, show U.toList = [110, 100, 97, 115, 104] from by simpa using h1]; decide +kernel)
    clear hR
    go_enter Try.func61, Try.ntmps61
    go_wp2
    go_ret
    exact ⟨ret_str (by rw [HV.out]; rfl), rfl⟩
  cases h2 : (U.toList == [109, 100, 97, 115, 104])
  rotate_left
  · have HV : Hid (R = [226, 128, 148]) := Lib.hid (by rw [hR, show U.toList = [109, 100, 97, 115, 104] from by simpa using h2]; decide +kernel)
    clear hR
    go_enter Try.func61, Try.ntmps61
    go_wp2
    go_ret
    exact ⟨ret_str (by rw [HV.out]; rfl), rfl⟩
  cases h3 : (U.toList == [108, 115, 113, 117, 111])
  rotate_left
  · have HV : Hid (R = [226, 128, 152]) := Lib.hid (by rw [hR, show U.toList = [108, 115, 113, 117, 111] from by simpa using h3]; decide +kernel)
    clear hR
    go_enter Try.func61, Try.ntmps61
    go_wp2
    go_ret
    exact ⟨ret_str (by rw [HV.out]; rfl), rfl⟩
  cases h4 : (U.toList == [114, 115, 113, 117, 111])
  rotate_left
  · have HV : Hid (R = [226, 128, 153]) := Lib.hid (by rw [hR, show U.toList = [114, 115, 113, 117, 111] from by simpa using h4]; decide +kernel)
    clear hR
    go_enter Try.func61, Try.ntmps61
    go_wp2
    go_ret
    exact ⟨ret_str (by rw [HV.out]; rfl), rfl⟩
  cases h5 : (U.toList == [108, 100, 113, 117, 111])
  rotate_left
  · have HV : Hid (R = [226, 128, 156]) := Lib.hid (by rw [hR, show U.toList = [108, 100, 113, 117, 111] from by simpa using h5]; decide +kernel)
    clear hR
    go_enter Try.func61, Try.ntmps61
    go_wp2
    go_ret
    exact ⟨ret_str (by rw [HV.out]; rfl), rfl⟩
  cases h6 : (U.toList == [114, 100, 113, 117, 111])
  rotate_left
  · have HV : Hid (R = [226, 128, 157]) := Lib.hid (by rw [hR, show U.toList = [114, 100, 113, 117, 111] from by simpa using h6]; decide +kernel)
    clear hR
    go_enter Try.func61, Try.ntmps61
    go_wp2
    go_ret
    exact ⟨ret_str (by rw [HV.out]; rfl), rfl⟩
  cases h7 : (U.toList == [84, 97, 98])
  rotate_left
  · have HV : Hid (R = [9]) := Lib.hid (by rw [hR, show U.toList = [84, 97, 98] from by simpa using h7]; decide +kernel)
    clear hR
    go_enter Try.func61, Try.ntmps61
    go_wp2
    go_ret
    exact ⟨ret_str (by rw [HV.out]; rfl), rfl⟩
  cases h8 : (U.toList == [78, 101, 119, 76, 105, 110, 101])
  rotate_left
  · have HV : Hid (R = [10]) := Lib.hid (by rw [hR, show U.toList = [78, 101, 119, 76, 105, 110, 101] from by simpa using h8]; decide +kernel)
    clear hR
    go_enter Try.func61, Try.ntmps61
    go_wp2
    go_ret
    exact ⟨ret_str (by rw [HV.out]; rfl), rfl⟩
  cases h9 : (U.toList == [99, 111, 108, 111, 110])
  rotate_left
  · have HV : Hid (R = [58]) := Lib.hid (by rw [hR, show U.toList = [99, 111, 108, 111, 110] from by simpa using h9]; decide +kernel)
    clear hR
    go_enter Try.func61, Try.ntmps61
    go_wp2
    go_ret
    exact ⟨ret_str (by rw [HV.out]; rfl), rfl⟩
  cases h10 : (U.toList == [115, 111, 108])
  rotate_left
  · have HV : Hid (R = [47]) := Lib.hid (by rw [hR, show U.toList = [115, 111, 108] from by simpa using h10]; decide +kernel)
    clear hR
    go_enter Try.func61, Try.ntmps61
    go_wp2
    go_ret
    exact ⟨ret_str (by rw [HV.out]; rfl), rfl⟩
  cases h11 : (U.toList == [113, 117, 101, 115, 116])
  rotate_left
  · have HV : Hid (R = [63]) := Lib.hid (by rw [hR, show U.toList = [113, 117, 101, 115, 116] from by simpa using h11]; decide +kernel)
    clear hR
    go_enter Try.func61, Try.ntmps61
    go_wp2
    go_ret
    exact ⟨ret_str (by rw [HV.out]; rfl), rfl⟩
  cases h12 : (U.toList == [108, 112, 97, 114])
  rotate_left
  · have HV : Hid (R = [40]) := Lib.hid (by rw [hR, show U.toList = [108, 112, 97, 114] from by simpa using h12]; decide +kernel)
    clear hR
    go_enter Try.func61, Try.ntmps61
    go_wp2
    go_ret
    exact ⟨ret_str (by rw [HV.out]; rfl), rfl⟩
  cases h13 : (U.toList == [122, 119, 106])
  rotate_left
  · have HV : Hid (R = [226, 128, 141]) := Lib.hid (by rw [hR, show U.toList = [122, 119, 106] from by simpa using h13]; decide +kernel)
    clear hR
    go_enter Try.func61, Try.ntmps61
    go_wp2
    go_ret
    exact ⟨ret_str (by rw [HV.out]; rfl), rfl⟩
  have HV : Hid (R = []) := Lib.hid (by rw [hR]; simp [markC, markT, List.lookup, h0, h1, h2, h3, h4, h5, h6, h7, h8, h9, h10, h11, h12, h13])
  clear hR
  go_enter Try.func61, Try.ntmps61
  go_wp2
  go_ret
  exact ⟨ret_str (by rw [HV.out]; rfl), rfl⟩

set_option maxHeartbeats 8000000 in
set_option maxRecDepth 100000 in
theorem strict_w (U : ByteArray) (w : World) :
    Calls Try.prog 51 #[.string U] w fun e w' => e = .returned (.string (bs (strictC U.toList))) ∧ w = w' := by
  obtain ⟨R, hR⟩ : ∃ R, R = strictC U.toList := ⟨_, rfl⟩
  rw [← hR]
  cases h0 : (U.toList == [97, 112, 111, 115])
  rotate_left
  · have HV : Hid (R = [39]) := Lib.hid (by rw [hR, show U.toList = [97, 112, 111, 115] from by simpa using h0]; decide +kernel)
    clear hR
    go_enter Try.func51, Try.ntmps51
    go_wp2
    go_ret
    exact ⟨ret_str (by rw [HV.out]; rfl), rfl⟩
  cases h1 : (U.toList == [110, 111, 116, 105, 110])
  rotate_left
  · have HV : Hid (R = [226, 136, 137]) := Lib.hid (by rw [hR, show U.toList = [110, 111, 116, 105, 110] from by simpa using h1]; decide +kernel)
    clear hR
    go_enter Try.func51, Try.ntmps51
    go_wp2
    go_ret
    exact ⟨ret_str (by rw [HV.out]; rfl), rfl⟩
  cases h2 : (U.toList == [99, 111, 112, 121, 115, 114])
  rotate_left
  · have HV : Hid (R = [226, 132, 151]) := Lib.hid (by rw [hR, show U.toList = [99, 111, 112, 121, 115, 114] from by simpa using h2]; decide +kernel)
    clear hR
    go_enter Try.func51, Try.ntmps51
    go_wp2
    go_ret
    exact ⟨ret_str (by rw [HV.out]; rfl), rfl⟩
  cases h3 : (U.toList == [112, 97, 114, 97, 108, 108, 101, 108])
  rotate_left
  · have HV : Hid (R = [226, 136, 165]) := Lib.hid (by rw [hR, show U.toList = [112, 97, 114, 97, 108, 108, 101, 108] from by simpa using h3]; decide +kernel)
    clear hR
    go_enter Try.func51, Try.ntmps51
    go_wp2
    go_ret
    exact ⟨ret_str (by rw [HV.out]; rfl), rfl⟩
  cases h4 : (U.toList == [116, 105, 109, 101, 115, 98])
  rotate_left
  · have HV : Hid (R = [226, 138, 160]) := Lib.hid (by rw [hR, show U.toList = [116, 105, 109, 101, 115, 98] from by simpa using h4]; decide +kernel)
    clear hR
    go_enter Try.func51, Try.ntmps51
    go_wp2
    go_ret
    exact ⟨ret_str (by rw [HV.out]; rfl), rfl⟩
  cases h5 : (U.toList == [108, 116, 105, 109, 101, 115])
  rotate_left
  · have HV : Hid (R = [226, 139, 137]) := Lib.hid (by rw [hR, show U.toList = [108, 116, 105, 109, 101, 115] from by simpa using h5]; decide +kernel)
    clear hR
    go_enter Try.func51, Try.ntmps51
    go_wp2
    go_ret
    exact ⟨ret_str (by rw [HV.out]; rfl), rfl⟩
  cases h6 : (U.toList == [103, 116, 100, 111, 116])
  rotate_left
  · have HV : Hid (R = [226, 139, 151]) := Lib.hid (by rw [hR, show U.toList = [103, 116, 100, 111, 116] from by simpa using h6]; decide +kernel)
    clear hR
    go_enter Try.func51, Try.ntmps51
    go_wp2
    go_ret
    exact ⟨ret_str (by rw [HV.out]; rfl), rfl⟩
  cases h7 : (U.toList == [101, 117, 114, 111])
  rotate_left
  · have HV : Hid (R = [226, 130, 172]) := Lib.hid (by rw [hR, show U.toList = [101, 117, 114, 111] from by simpa using h7]; decide +kernel)
    clear hR
    go_enter Try.func51, Try.ntmps51
    go_wp2
    go_ret
    exact ⟨ret_str (by rw [HV.out]; rfl), rfl⟩
  cases h8 : (U.toList == [116, 114, 97, 100, 101])
  rotate_left
  · have HV : Hid (R = [226, 132, 162]) := Lib.hid (by rw [hR, show U.toList = [116, 114, 97, 100, 101] from by simpa using h8]; decide +kernel)
    clear hR
    go_enter Try.func51, Try.ntmps51
    go_wp2
    go_ret
    exact ⟨ret_str (by rw [HV.out]; rfl), rfl⟩
  cases h9 : (U.toList == [108, 97, 114, 114])
  rotate_left
  · have HV : Hid (R = [226, 134, 144]) := Lib.hid (by rw [hR, show U.toList = [108, 97, 114, 114] from by simpa using h9]; decide +kernel)
    clear hR
    go_enter Try.func51, Try.ntmps51
    go_wp2
    go_ret
    exact ⟨ret_str (by rw [HV.out]; rfl), rfl⟩
  cases h10 : (U.toList == [114, 97, 114, 114])
  rotate_left
  · have HV : Hid (R = [226, 134, 146]) := Lib.hid (by rw [hR, show U.toList = [114, 97, 114, 114] from by simpa using h10]; decide +kernel)
    clear hR
    go_enter Try.func51, Try.ntmps51
    go_wp2
    go_ret
    exact ⟨ret_str (by rw [HV.out]; rfl), rfl⟩
  cases h11 : (U.toList == [78, 111, 116, 69, 113, 117, 97, 108, 84, 105, 108, 100, 101])
  rotate_left
  · have HV : Hid (R = [226, 137, 130, 204, 184]) := Lib.hid (by rw [hR, show U.toList = [78, 111, 116, 69, 113, 117, 97, 108, 84, 105, 108, 100, 101] from by simpa using h11]; decide +kernel)
    clear hR
    go_enter Try.func51, Try.ntmps51
    go_wp2
    go_ret
    exact ⟨ret_str (by rw [HV.out]; rfl), rfl⟩
  cases h12 : (U.toList == [84, 104, 105, 99, 107, 83, 112, 97, 99, 101])
  rotate_left
  · have HV : Hid (R = [226, 129, 159, 226, 128, 138]) := Lib.hid (by rw [hR, show U.toList = [84, 104, 105, 99, 107, 83, 112, 97, 99, 101] from by simpa using h12]; decide +kernel)
    clear hR
    go_enter Try.func51, Try.ntmps51
    go_wp2
    go_ret
    exact ⟨ret_str (by rw [HV.out]; rfl), rfl⟩
  cases h13 : (U.toList == [110, 118, 108, 116])
  rotate_left
  · have HV : Hid (R = [60, 226, 131, 146]) := Lib.hid (by rw [hR, show U.toList = [110, 118, 108, 116] from by simpa using h13]; decide +kernel)
    clear hR
    go_enter Try.func51, Try.ntmps51
    go_wp2
    go_ret
    exact ⟨ret_str (by rw [HV.out]; rfl), rfl⟩
  have HV : Hid (R = markC U.toList) := Lib.hid (by rw [hR]; simp [strictC, strictT, markC, markT, List.lookup, h0, h1, h2, h3, h4, h5, h6, h7, h8, h9, h10, h11, h12, h13])
  clear hR
  have HM := Lib.hid (mark_w U w)
  go_enter Try.func51, Try.ntmps51
  go_wp2_with fail
  refine HM.out.mono ?_; rintro e w' ⟨rfl, rfl⟩
  go_wp2
  go_ret
  exact ⟨ret_str (by rw [HV.out]), rfl⟩


theorem loose_any (l : Bs) (w : World) : Calls Try.prog 50 #[.string (bs l)] w fun e w' => e = .returned (.string (bs (looseC l))) ∧ w = w' := by
  have := loose_w (bs l) w
  rwa [toList_data', show (bs l).data.toList = l from data_mk l] at this
theorem strict_any (l : Bs) (w : World) : Calls Try.prog 51 #[.string (bs l)] w fun e w' => e = .returned (.string (bs (strictC l))) ∧ w = w' := by
  have := strict_w (bs l) w
  rwa [toList_data', show (bs l).data.toList = l from data_mk l] at this
theorem cutsuf_any (X P : ByteArray) (w : World) (hs : X.size ≤ 9223372036854775807) :
    Calls Try.prog 49 #[.string X, .string P] w fun e w' => e = .returned (.tuple #[.string (bs (Lib.trimSuffix X.data.toList P.data.toList)), .bool (Lib.hasSuffix X.data.toList P.data.toList)]) ∧ w' = w :=
  Any.strings_CutSuffix Try.lays104 X P w hs
theorem hasp_any (X P : ByteArray) (w : World) : Calls Try.prog 34 #[.string X, .string P] w fun e w' => e = .returned (.bool (Lib.hasPrefix X.data.toList P.data.toList)) ∧ w' = w :=
  Any.strings_HasPrefix Try.lays99 X P w
theorem bs_ne {l : Bs} (h : l ≠ []) : ((bs l).toList != []) = true := by
  rw [toList_data', show (bs l).data.toList = l from data_mk l]; simp [h]
theorem bs_eq {l : Bs} (h : l = []) : ((bs l).toList != []) = false := by
  rw [toList_data', show (bs l).data.toList = l from data_mk l]; simp [h]

set_option maxHeartbeats 4000000 in
theorem named_any (X : ByteArray) (w : World) (hs : X.size ≤ 9223372036854775807) :
    Calls Try.prog 29 #[.string X] w fun e w' => e = .returned (.string (bs (nm X.data.toList))) ∧ w = w' := by
  obtain ⟨R, hR⟩ : ∃ R, R = nm X.data.toList := ⟨_, rfl⟩
  rw [← hR]
  unfold nm at hR
  have hc := cutsuf_any X ⟨#[59]⟩ w hs
  have hsemi : (⟨#[59]⟩ : ByteArray).data.toList = [59] := rfl
  rw [hsemi] at hc
  generalize Lib.trimSuffix X.data.toList [59] = T at hc hR
  generalize Lib.hasSuffix X.data.toList [59] = b at hc hR
  have hl := loose_any T w
  have hst := strict_any T w
  have ht : looseC T ≠ [] ∨ looseC T = [] := by by_cases h : looseC T = [] <;> simp [h]
  generalize looseC T = A at hl hR ht
  generalize strictC T = S at hst hR
  have HC := Lib.hid hc
  have HL := Lib.hid hl
  have HS := Lib.hid hst
  clear hc hl hst hsemi hs
  obtain ⟨BA, hBA⟩ : ∃ x, x = bs A := ⟨_, rfl⟩
  obtain ⟨BS, hBS⟩ : ∃ x, x = bs S := ⟨_, rfl⟩
  obtain ⟨BT, hBT⟩ : ∃ x, x = bs T := ⟨_, rfl⟩
  rw [← hBA] at HL
  rw [← hBS] at HS
  rw [← hBT] at HC HL HS
  have hne : A ≠ [] → ¬ BA.toList = [] := fun h => by rw [hBA, toList_data', show (bs A).data.toList = A from data_mk A]; exact h
  have hnn : A = [] → BA.toList = [] := fun h => by rw [hBA, toList_data', show (bs A).data.toList = A from data_mk A]; exact h
  have hra : A ≠ [] ∨ b = false → Hid (BA = bs R) := fun h => Lib.hid (by rw [hR, if_pos h, hBA])
  have hrs : ¬ (A ≠ [] ∨ b = false) → Hid (BS = bs R) := fun h => Lib.hid (by rw [hR, if_neg h, hBS])
  clear hR hBA hBS hBT
  rcases ht with ht | ht
  · have h1 := hne ht
    have HV := hra (.inl ht)
    clear hne hnn hra hrs ht
    go_enter Try.func29, Try.ntmps29
    go_wp2_with fail
    refine HC.out.mono ?_; rintro e w' ⟨rfl, rfl⟩
    go_wp2_with fail
    refine HL.out.mono ?_; rintro e w' ⟨rfl, rfl⟩
    go_wp2
    go_ret
    exact ⟨ret_str HV.out, rfl⟩
  · have h1 := hnn ht
    cases b
    · have HV := hra (.inr rfl)
      clear hne hnn hra hrs ht
      go_enter Try.func29, Try.ntmps29
      go_wp2_with fail
      refine HC.out.mono ?_; rintro e w' ⟨rfl, rfl⟩
      go_wp2_with fail
      refine HL.out.mono ?_; rintro e w' ⟨rfl, rfl⟩
      go_wp2
      go_ret
      exact ⟨ret_str HV.out, rfl⟩
    · have HV := hrs (by simp [ht])
      clear hne hnn hra hrs ht
      go_enter Try.func29, Try.ntmps29
      go_wp2_with fail
      refine HC.out.mono ?_; rintro e w' ⟨rfl, rfl⟩
      go_wp2_with fail
      refine HL.out.mono ?_; rintro e w' ⟨rfl, rfl⟩
      go_wp2_with fail
      refine HS.out.mono ?_; rintro e w' ⟨rfl, rfl⟩
      go_wp2
      go_ret
      exact ⟨ret_str HV.out, rfl⟩
theorem ret_si {a b : ByteArray} {n m : Int} (h : a = b) (h2 : n = m) : Ending.returned (.tuple #[.string a, .int .i64 n]) = .returned (.tuple #[.string b, .int .i64 m]) := by rw [h, h2]


end Go.Proofs.Ytpepoccoljmmjaa
