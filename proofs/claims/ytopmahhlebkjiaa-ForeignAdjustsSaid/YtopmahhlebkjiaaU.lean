/- Names with their large letters. -/
import Derived.Test.YtopmahhlebkjiaaK
namespace Go.Proofs.Ytopmahhlebkjiaa
open Go.RowKit

theorem ret_str {a b : ByteArray} (h : a = b) : Ending.returned (.string a) = .returned (.string b) := by rw [h]
/-- the word of a list that is the same in small letters, or the word itself -/
def look (word : ByteArray) (L : List ByteArray) : ByteArray := match L.find? (fun s => s.data.toList.map low == word.data.toList) with | some s => s | none => word
theorem look_none {word : ByteArray} {L : List ByteArray} (h : ∀ i (hi : i < L.length), (L[i].data.toList.map low == word.data.toList) = false) : look word L = word := by
  unfold look
  rw [List.find?_eq_none.2 (by intro x hx; obtain ⟨i, hi, rfl⟩ := List.getElem_of_mem hx; rw [h i hi]; simp)]
theorem look_at {word : ByteArray} {L : List ByteArray} (j : Nat) (hj : j < L.length) (h : ∀ i (hi : i < j), ((L[i]'(by omega)).data.toList.map low == word.data.toList) = false) (ht : (L[j].data.toList.map low == word.data.toList) = true) : look word L = L[j] := by
  unfold look
  have : L.find? (fun s => s.data.toList.map low == word.data.toList) = some L[j] := by
    rw [List.find?_eq_some_iff_getElem]
    exact ⟨ht, j, hj, rfl, fun i hi => by simpa using h i hi⟩
  rw [this]
def eNames : List ByteArray := [⟨#[97, 108, 116, 71, 108, 121, 112, 104]⟩, ⟨#[97, 110, 105, 109, 97, 116, 101, 77, 111, 116, 105, 111, 110]⟩, ⟨#[97, 110, 105, 109, 97, 116, 101, 84, 114, 97, 110, 115, 102, 111, 114, 109]⟩, ⟨#[99, 108, 105, 112, 80, 97, 116, 104]⟩, ⟨#[102, 101, 71, 97, 117, 115, 115, 105, 97, 110, 66, 108, 117, 114]⟩, ⟨#[102, 111, 114, 101, 105, 103, 110, 79, 98, 106, 101, 99, 116]⟩, ⟨#[103, 108, 121, 112, 104, 82, 101, 102]⟩, ⟨#[108, 105, 110, 101, 97, 114, 71, 114, 97, 100, 105, 101, 110, 116]⟩, ⟨#[114, 97, 100, 105, 97, 108, 71, 114, 97, 100, 105, 101, 110, 116]⟩, ⟨#[116, 101, 120, 116, 80, 97, 116, 104]⟩]
def aNames : List ByteArray := [⟨#[97, 116, 116, 114, 105, 98, 117, 116, 101, 78, 97, 109, 101]⟩, ⟨#[103, 114, 97, 100, 105, 101, 110, 116, 84, 114, 97, 110, 115, 102, 111, 114, 109]⟩, ⟨#[103, 114, 97, 100, 105, 101, 110, 116, 85, 110, 105, 116, 115]⟩, ⟨#[112, 97, 116, 104, 76, 101, 110, 103, 116, 104]⟩, ⟨#[112, 97, 116, 116, 101, 114, 110, 85, 110, 105, 116, 115]⟩, ⟨#[112, 114, 101, 115, 101, 114, 118, 101, 65, 115, 112, 101, 99, 116, 82, 97, 116, 105, 111]⟩, ⟨#[114, 101, 102, 88]⟩, ⟨#[114, 101, 102, 89]⟩, ⟨#[115, 116, 100, 68, 101, 118, 105, 97, 116, 105, 111, 110]⟩, ⟨#[116, 101, 120, 116, 76, 101, 110, 103, 116, 104]⟩, ⟨#[118, 105, 101, 119, 66, 111, 120]⟩]
def dNames : List ByteArray := [⟨#[100, 101, 102, 105, 110, 105, 116, 105, 111, 110, 85, 82, 76]⟩]
/-- an element's name -/
def nam (space : Int) (s : ByteArray) : ByteArray := if space = 1 then look s eNames else s
/-- an attribute's name -/
def atn (space : Int) (s : ByteArray) : ByteArray := if space = 1 then look s aNames else if space = 2 then look s dNames else s
theorem str_of (s : ByteArray) (l : List UInt8) (h : (s.toList == l) = true) : s = ⟨l.toArray⟩ := by
  have h := eq_of_beq h
  rw [Lib.toList_data] at h
  apply ByteArray.ext
  rw [← h]
theorem beq_flip' (a b : List UInt8) : (a == b) = (b == a) := by
  rw [Bool.eq_iff_iff, beq_iff_eq, beq_iff_eq]; exact eq_comm
theorem eNames_no (s : ByteArray) (f0 : (s.toList == [97, 108, 116, 103, 108, 121, 112, 104]) = false) (f1 : (s.toList == [97, 110, 105, 109, 97, 116, 101, 109, 111, 116, 105, 111, 110]) = false) (f2 : (s.toList == [97, 110, 105, 109, 97, 116, 101, 116, 114, 97, 110, 115, 102, 111, 114, 109]) = false) (f3 : (s.toList == [99, 108, 105, 112, 112, 97, 116, 104]) = false) (f4 : (s.toList == [102, 101, 103, 97, 117, 115, 115, 105, 97, 110, 98, 108, 117, 114]) = false) (f5 : (s.toList == [102, 111, 114, 101, 105, 103, 110, 111, 98, 106, 101, 99, 116]) = false) (f6 : (s.toList == [103, 108, 121, 112, 104, 114, 101, 102]) = false) (f7 : (s.toList == [108, 105, 110, 101, 97, 114, 103, 114, 97, 100, 105, 101, 110, 116]) = false) (f8 : (s.toList == [114, 97, 100, 105, 97, 108, 103, 114, 97, 100, 105, 101, 110, 116]) = false) (f9 : (s.toList == [116, 101, 120, 116, 112, 97, 116, 104]) = false) : look s eNames = s := by
  rw [Lib.toList_data] at f0 f1 f2 f3 f4 f5 f6 f7 f8 f9
  unfold look eNames
  have e0 : ((⟨#[97, 108, 116, 71, 108, 121, 112, 104]⟩ : ByteArray).data.toList.map low == s.data.toList) = false := by rw [show (⟨#[97, 108, 116, 71, 108, 121, 112, 104]⟩ : ByteArray).data.toList.map low = [97, 108, 116, 103, 108, 121, 112, 104] by decide, beq_flip']; exact f0
  have e1 : ((⟨#[97, 110, 105, 109, 97, 116, 101, 77, 111, 116, 105, 111, 110]⟩ : ByteArray).data.toList.map low == s.data.toList) = false := by rw [show (⟨#[97, 110, 105, 109, 97, 116, 101, 77, 111, 116, 105, 111, 110]⟩ : ByteArray).data.toList.map low = [97, 110, 105, 109, 97, 116, 101, 109, 111, 116, 105, 111, 110] by decide, beq_flip']; exact f1
  have e2 : ((⟨#[97, 110, 105, 109, 97, 116, 101, 84, 114, 97, 110, 115, 102, 111, 114, 109]⟩ : ByteArray).data.toList.map low == s.data.toList) = false := by rw [show (⟨#[97, 110, 105, 109, 97, 116, 101, 84, 114, 97, 110, 115, 102, 111, 114, 109]⟩ : ByteArray).data.toList.map low = [97, 110, 105, 109, 97, 116, 101, 116, 114, 97, 110, 115, 102, 111, 114, 109] by decide, beq_flip']; exact f2
  have e3 : ((⟨#[99, 108, 105, 112, 80, 97, 116, 104]⟩ : ByteArray).data.toList.map low == s.data.toList) = false := by rw [show (⟨#[99, 108, 105, 112, 80, 97, 116, 104]⟩ : ByteArray).data.toList.map low = [99, 108, 105, 112, 112, 97, 116, 104] by decide, beq_flip']; exact f3
  have e4 : ((⟨#[102, 101, 71, 97, 117, 115, 115, 105, 97, 110, 66, 108, 117, 114]⟩ : ByteArray).data.toList.map low == s.data.toList) = false := by rw [show (⟨#[102, 101, 71, 97, 117, 115, 115, 105, 97, 110, 66, 108, 117, 114]⟩ : ByteArray).data.toList.map low = [102, 101, 103, 97, 117, 115, 115, 105, 97, 110, 98, 108, 117, 114] by decide, beq_flip']; exact f4
  have e5 : ((⟨#[102, 111, 114, 101, 105, 103, 110, 79, 98, 106, 101, 99, 116]⟩ : ByteArray).data.toList.map low == s.data.toList) = false := by rw [show (⟨#[102, 111, 114, 101, 105, 103, 110, 79, 98, 106, 101, 99, 116]⟩ : ByteArray).data.toList.map low = [102, 111, 114, 101, 105, 103, 110, 111, 98, 106, 101, 99, 116] by decide, beq_flip']; exact f5
  have e6 : ((⟨#[103, 108, 121, 112, 104, 82, 101, 102]⟩ : ByteArray).data.toList.map low == s.data.toList) = false := by rw [show (⟨#[103, 108, 121, 112, 104, 82, 101, 102]⟩ : ByteArray).data.toList.map low = [103, 108, 121, 112, 104, 114, 101, 102] by decide, beq_flip']; exact f6
  have e7 : ((⟨#[108, 105, 110, 101, 97, 114, 71, 114, 97, 100, 105, 101, 110, 116]⟩ : ByteArray).data.toList.map low == s.data.toList) = false := by rw [show (⟨#[108, 105, 110, 101, 97, 114, 71, 114, 97, 100, 105, 101, 110, 116]⟩ : ByteArray).data.toList.map low = [108, 105, 110, 101, 97, 114, 103, 114, 97, 100, 105, 101, 110, 116] by decide, beq_flip']; exact f7
  have e8 : ((⟨#[114, 97, 100, 105, 97, 108, 71, 114, 97, 100, 105, 101, 110, 116]⟩ : ByteArray).data.toList.map low == s.data.toList) = false := by rw [show (⟨#[114, 97, 100, 105, 97, 108, 71, 114, 97, 100, 105, 101, 110, 116]⟩ : ByteArray).data.toList.map low = [114, 97, 100, 105, 97, 108, 103, 114, 97, 100, 105, 101, 110, 116] by decide, beq_flip']; exact f8
  have e9 : ((⟨#[116, 101, 120, 116, 80, 97, 116, 104]⟩ : ByteArray).data.toList.map low == s.data.toList) = false := by rw [show (⟨#[116, 101, 120, 116, 80, 97, 116, 104]⟩ : ByteArray).data.toList.map low = [116, 101, 120, 116, 112, 97, 116, 104] by decide, beq_flip']; exact f9
  simp only [List.find?_cons, List.find?_nil, e0, e1, e2, e3, e4, e5, e6, e7, e8, e9]
theorem aNames_no (s : ByteArray) (f0 : (s.toList == [97, 116, 116, 114, 105, 98, 117, 116, 101, 110, 97, 109, 101]) = false) (f1 : (s.toList == [103, 114, 97, 100, 105, 101, 110, 116, 116, 114, 97, 110, 115, 102, 111, 114, 109]) = false) (f2 : (s.toList == [103, 114, 97, 100, 105, 101, 110, 116, 117, 110, 105, 116, 115]) = false) (f3 : (s.toList == [112, 97, 116, 104, 108, 101, 110, 103, 116, 104]) = false) (f4 : (s.toList == [112, 97, 116, 116, 101, 114, 110, 117, 110, 105, 116, 115]) = false) (f5 : (s.toList == [112, 114, 101, 115, 101, 114, 118, 101, 97, 115, 112, 101, 99, 116, 114, 97, 116, 105, 111]) = false) (f6 : (s.toList == [114, 101, 102, 120]) = false) (f7 : (s.toList == [114, 101, 102, 121]) = false) (f8 : (s.toList == [115, 116, 100, 100, 101, 118, 105, 97, 116, 105, 111, 110]) = false) (f9 : (s.toList == [116, 101, 120, 116, 108, 101, 110, 103, 116, 104]) = false) (f10 : (s.toList == [118, 105, 101, 119, 98, 111, 120]) = false) : look s aNames = s := by
  rw [Lib.toList_data] at f0 f1 f2 f3 f4 f5 f6 f7 f8 f9 f10
  unfold look aNames
  have e0 : ((⟨#[97, 116, 116, 114, 105, 98, 117, 116, 101, 78, 97, 109, 101]⟩ : ByteArray).data.toList.map low == s.data.toList) = false := by rw [show (⟨#[97, 116, 116, 114, 105, 98, 117, 116, 101, 78, 97, 109, 101]⟩ : ByteArray).data.toList.map low = [97, 116, 116, 114, 105, 98, 117, 116, 101, 110, 97, 109, 101] by decide, beq_flip']; exact f0
  have e1 : ((⟨#[103, 114, 97, 100, 105, 101, 110, 116, 84, 114, 97, 110, 115, 102, 111, 114, 109]⟩ : ByteArray).data.toList.map low == s.data.toList) = false := by rw [show (⟨#[103, 114, 97, 100, 105, 101, 110, 116, 84, 114, 97, 110, 115, 102, 111, 114, 109]⟩ : ByteArray).data.toList.map low = [103, 114, 97, 100, 105, 101, 110, 116, 116, 114, 97, 110, 115, 102, 111, 114, 109] by decide, beq_flip']; exact f1
  have e2 : ((⟨#[103, 114, 97, 100, 105, 101, 110, 116, 85, 110, 105, 116, 115]⟩ : ByteArray).data.toList.map low == s.data.toList) = false := by rw [show (⟨#[103, 114, 97, 100, 105, 101, 110, 116, 85, 110, 105, 116, 115]⟩ : ByteArray).data.toList.map low = [103, 114, 97, 100, 105, 101, 110, 116, 117, 110, 105, 116, 115] by decide, beq_flip']; exact f2
  have e3 : ((⟨#[112, 97, 116, 104, 76, 101, 110, 103, 116, 104]⟩ : ByteArray).data.toList.map low == s.data.toList) = false := by rw [show (⟨#[112, 97, 116, 104, 76, 101, 110, 103, 116, 104]⟩ : ByteArray).data.toList.map low = [112, 97, 116, 104, 108, 101, 110, 103, 116, 104] by decide, beq_flip']; exact f3
  have e4 : ((⟨#[112, 97, 116, 116, 101, 114, 110, 85, 110, 105, 116, 115]⟩ : ByteArray).data.toList.map low == s.data.toList) = false := by rw [show (⟨#[112, 97, 116, 116, 101, 114, 110, 85, 110, 105, 116, 115]⟩ : ByteArray).data.toList.map low = [112, 97, 116, 116, 101, 114, 110, 117, 110, 105, 116, 115] by decide, beq_flip']; exact f4
  have e5 : ((⟨#[112, 114, 101, 115, 101, 114, 118, 101, 65, 115, 112, 101, 99, 116, 82, 97, 116, 105, 111]⟩ : ByteArray).data.toList.map low == s.data.toList) = false := by rw [show (⟨#[112, 114, 101, 115, 101, 114, 118, 101, 65, 115, 112, 101, 99, 116, 82, 97, 116, 105, 111]⟩ : ByteArray).data.toList.map low = [112, 114, 101, 115, 101, 114, 118, 101, 97, 115, 112, 101, 99, 116, 114, 97, 116, 105, 111] by decide, beq_flip']; exact f5
  have e6 : ((⟨#[114, 101, 102, 88]⟩ : ByteArray).data.toList.map low == s.data.toList) = false := by rw [show (⟨#[114, 101, 102, 88]⟩ : ByteArray).data.toList.map low = [114, 101, 102, 120] by decide, beq_flip']; exact f6
  have e7 : ((⟨#[114, 101, 102, 89]⟩ : ByteArray).data.toList.map low == s.data.toList) = false := by rw [show (⟨#[114, 101, 102, 89]⟩ : ByteArray).data.toList.map low = [114, 101, 102, 121] by decide, beq_flip']; exact f7
  have e8 : ((⟨#[115, 116, 100, 68, 101, 118, 105, 97, 116, 105, 111, 110]⟩ : ByteArray).data.toList.map low == s.data.toList) = false := by rw [show (⟨#[115, 116, 100, 68, 101, 118, 105, 97, 116, 105, 111, 110]⟩ : ByteArray).data.toList.map low = [115, 116, 100, 100, 101, 118, 105, 97, 116, 105, 111, 110] by decide, beq_flip']; exact f8
  have e9 : ((⟨#[116, 101, 120, 116, 76, 101, 110, 103, 116, 104]⟩ : ByteArray).data.toList.map low == s.data.toList) = false := by rw [show (⟨#[116, 101, 120, 116, 76, 101, 110, 103, 116, 104]⟩ : ByteArray).data.toList.map low = [116, 101, 120, 116, 108, 101, 110, 103, 116, 104] by decide, beq_flip']; exact f9
  have e10 : ((⟨#[118, 105, 101, 119, 66, 111, 120]⟩ : ByteArray).data.toList.map low == s.data.toList) = false := by rw [show (⟨#[118, 105, 101, 119, 66, 111, 120]⟩ : ByteArray).data.toList.map low = [118, 105, 101, 119, 98, 111, 120] by decide, beq_flip']; exact f10
  simp only [List.find?_cons, List.find?_nil, e0, e1, e2, e3, e4, e5, e6, e7, e8, e9, e10]
theorem dNames_no (s : ByteArray) (f0 : (s.toList == [100, 101, 102, 105, 110, 105, 116, 105, 111, 110, 117, 114, 108]) = false) : look s dNames = s := by
  rw [Lib.toList_data] at f0
  unfold look dNames
  have e0 : ((⟨#[100, 101, 102, 105, 110, 105, 116, 105, 111, 110, 85, 82, 76]⟩ : ByteArray).data.toList.map low == s.data.toList) = false := by rw [show (⟨#[100, 101, 102, 105, 110, 105, 116, 105, 111, 110, 85, 82, 76]⟩ : ByteArray).data.toList.map low = [100, 101, 102, 105, 110, 105, 116, 105, 111, 110, 117, 114, 108] by decide, beq_flip']; exact f0
  simp only [List.find?_cons, List.find?_nil, e0]

set_option maxHeartbeats 8000000 in
theorem attrSVG_any (s : ByteArray) (w : World) : Calls Try.prog 33 #[.string s] w fun e w' => e = .returned (.string (look s aNames)) ∧ w = w' := by
  obtain ⟨r, hr⟩ : ∃ r, look s aNames = r := ⟨_, rfl⟩
  rw [hr]
  cases f0 : (s.toList == [97, 116, 116, 114, 105, 98, 117, 116, 101, 110, 97, 109, 101])
  case true =>
    have HV : Hid (r = ⟨#[97, 116, 116, 114, 105, 98, 117, 116, 101, 78, 97, 109, 101]⟩) := Lib.hid (by rw [← hr, str_of s _ f0]; decide)
    clear hr
    go_enter Try.func33, Try.ntmps33
    go_wp2
    go_ret
    exact ⟨ret_str HV.out.symm, rfl⟩
  cases f1 : (s.toList == [103, 114, 97, 100, 105, 101, 110, 116, 116, 114, 97, 110, 115, 102, 111, 114, 109])
  case true =>
    have HV : Hid (r = ⟨#[103, 114, 97, 100, 105, 101, 110, 116, 84, 114, 97, 110, 115, 102, 111, 114, 109]⟩) := Lib.hid (by rw [← hr, str_of s _ f1]; decide)
    clear hr
    go_enter Try.func33, Try.ntmps33
    go_wp2
    go_ret
    exact ⟨ret_str HV.out.symm, rfl⟩
  cases f2 : (s.toList == [103, 114, 97, 100, 105, 101, 110, 116, 117, 110, 105, 116, 115])
  case true =>
    have HV : Hid (r = ⟨#[103, 114, 97, 100, 105, 101, 110, 116, 85, 110, 105, 116, 115]⟩) := Lib.hid (by rw [← hr, str_of s _ f2]; decide)
    clear hr
    go_enter Try.func33, Try.ntmps33
    go_wp2
    go_ret
    exact ⟨ret_str HV.out.symm, rfl⟩
  cases f3 : (s.toList == [112, 97, 116, 104, 108, 101, 110, 103, 116, 104])
  case true =>
    have HV : Hid (r = ⟨#[112, 97, 116, 104, 76, 101, 110, 103, 116, 104]⟩) := Lib.hid (by rw [← hr, str_of s _ f3]; decide)
    clear hr
    go_enter Try.func33, Try.ntmps33
    go_wp2
    go_ret
    exact ⟨ret_str HV.out.symm, rfl⟩
  cases f4 : (s.toList == [112, 97, 116, 116, 101, 114, 110, 117, 110, 105, 116, 115])
  case true =>
    have HV : Hid (r = ⟨#[112, 97, 116, 116, 101, 114, 110, 85, 110, 105, 116, 115]⟩) := Lib.hid (by rw [← hr, str_of s _ f4]; decide)
    clear hr
    go_enter Try.func33, Try.ntmps33
    go_wp2
    go_ret
    exact ⟨ret_str HV.out.symm, rfl⟩
  cases f5 : (s.toList == [112, 114, 101, 115, 101, 114, 118, 101, 97, 115, 112, 101, 99, 116, 114, 97, 116, 105, 111])
  case true =>
    have HV : Hid (r = ⟨#[112, 114, 101, 115, 101, 114, 118, 101, 65, 115, 112, 101, 99, 116, 82, 97, 116, 105, 111]⟩) := Lib.hid (by rw [← hr, str_of s _ f5]; decide)
    clear hr
    go_enter Try.func33, Try.ntmps33
    go_wp2
    go_ret
    exact ⟨ret_str HV.out.symm, rfl⟩
  cases f6 : (s.toList == [114, 101, 102, 120])
  case true =>
    have HV : Hid (r = ⟨#[114, 101, 102, 88]⟩) := Lib.hid (by rw [← hr, str_of s _ f6]; decide)
    clear hr
    go_enter Try.func33, Try.ntmps33
    go_wp2
    go_ret
    exact ⟨ret_str HV.out.symm, rfl⟩
  cases f7 : (s.toList == [114, 101, 102, 121])
  case true =>
    have HV : Hid (r = ⟨#[114, 101, 102, 89]⟩) := Lib.hid (by rw [← hr, str_of s _ f7]; decide)
    clear hr
    go_enter Try.func33, Try.ntmps33
    go_wp2
    go_ret
    exact ⟨ret_str HV.out.symm, rfl⟩
  cases f8 : (s.toList == [115, 116, 100, 100, 101, 118, 105, 97, 116, 105, 111, 110])
  case true =>
    have HV : Hid (r = ⟨#[115, 116, 100, 68, 101, 118, 105, 97, 116, 105, 111, 110]⟩) := Lib.hid (by rw [← hr, str_of s _ f8]; decide)
    clear hr
    go_enter Try.func33, Try.ntmps33
    go_wp2
    go_ret
    exact ⟨ret_str HV.out.symm, rfl⟩
  cases f9 : (s.toList == [116, 101, 120, 116, 108, 101, 110, 103, 116, 104])
  case true =>
    have HV : Hid (r = ⟨#[116, 101, 120, 116, 76, 101, 110, 103, 116, 104]⟩) := Lib.hid (by rw [← hr, str_of s _ f9]; decide)
    clear hr
    go_enter Try.func33, Try.ntmps33
    go_wp2
    go_ret
    exact ⟨ret_str HV.out.symm, rfl⟩
  cases f10 : (s.toList == [118, 105, 101, 119, 98, 111, 120])
  case true =>
    have HV : Hid (r = ⟨#[118, 105, 101, 119, 66, 111, 120]⟩) := Lib.hid (by rw [← hr, str_of s _ f10]; decide)
    clear hr
    go_enter Try.func33, Try.ntmps33
    go_wp2
    go_ret
    exact ⟨ret_str HV.out.symm, rfl⟩
  have HV : Hid (r = s) := Lib.hid (by rw [← hr]; exact aNames_no s f0 f1 f2 f3 f4 f5 f6 f7 f8 f9 f10)
  clear hr
  go_enter Try.func33, Try.ntmps33
  go_wp2
  go_ret
  exact ⟨ret_str HV.out.symm, rfl⟩

set_option maxHeartbeats 8000000 in
theorem name_one (s : ByteArray) (w : World) : Calls Try.prog 18 #[.int .i64 1, .string s] w fun e w' => e = .returned (.string (look s eNames)) ∧ w = w' := by
  obtain ⟨r, hr⟩ : ∃ r, look s eNames = r := ⟨_, rfl⟩
  rw [hr]
  cases f0 : (s.toList == [97, 108, 116, 103, 108, 121, 112, 104])
  case true =>
    have HV : Hid (r = ⟨#[97, 108, 116, 71, 108, 121, 112, 104]⟩) := Lib.hid (by rw [← hr, str_of s _ f0]; decide)
    clear hr
    go_enter Try.func18, Try.ntmps18
    go_wp2
    go_ret
    exact ⟨ret_str HV.out.symm, rfl⟩
  cases f1 : (s.toList == [97, 110, 105, 109, 97, 116, 101, 109, 111, 116, 105, 111, 110])
  case true =>
    have HV : Hid (r = ⟨#[97, 110, 105, 109, 97, 116, 101, 77, 111, 116, 105, 111, 110]⟩) := Lib.hid (by rw [← hr, str_of s _ f1]; decide)
    clear hr
    go_enter Try.func18, Try.ntmps18
    go_wp2
    go_ret
    exact ⟨ret_str HV.out.symm, rfl⟩
  cases f2 : (s.toList == [97, 110, 105, 109, 97, 116, 101, 116, 114, 97, 110, 115, 102, 111, 114, 109])
  case true =>
    have HV : Hid (r = ⟨#[97, 110, 105, 109, 97, 116, 101, 84, 114, 97, 110, 115, 102, 111, 114, 109]⟩) := Lib.hid (by rw [← hr, str_of s _ f2]; decide)
    clear hr
    go_enter Try.func18, Try.ntmps18
    go_wp2
    go_ret
    exact ⟨ret_str HV.out.symm, rfl⟩
  cases f3 : (s.toList == [99, 108, 105, 112, 112, 97, 116, 104])
  case true =>
    have HV : Hid (r = ⟨#[99, 108, 105, 112, 80, 97, 116, 104]⟩) := Lib.hid (by rw [← hr, str_of s _ f3]; decide)
    clear hr
    go_enter Try.func18, Try.ntmps18
    go_wp2
    go_ret
    exact ⟨ret_str HV.out.symm, rfl⟩
  cases f4 : (s.toList == [102, 101, 103, 97, 117, 115, 115, 105, 97, 110, 98, 108, 117, 114])
  case true =>
    have HV : Hid (r = ⟨#[102, 101, 71, 97, 117, 115, 115, 105, 97, 110, 66, 108, 117, 114]⟩) := Lib.hid (by rw [← hr, str_of s _ f4]; decide)
    clear hr
    go_enter Try.func18, Try.ntmps18
    go_wp2
    go_ret
    exact ⟨ret_str HV.out.symm, rfl⟩
  cases f5 : (s.toList == [102, 111, 114, 101, 105, 103, 110, 111, 98, 106, 101, 99, 116])
  case true =>
    have HV : Hid (r = ⟨#[102, 111, 114, 101, 105, 103, 110, 79, 98, 106, 101, 99, 116]⟩) := Lib.hid (by rw [← hr, str_of s _ f5]; decide)
    clear hr
    go_enter Try.func18, Try.ntmps18
    go_wp2
    go_ret
    exact ⟨ret_str HV.out.symm, rfl⟩
  cases f6 : (s.toList == [103, 108, 121, 112, 104, 114, 101, 102])
  case true =>
    have HV : Hid (r = ⟨#[103, 108, 121, 112, 104, 82, 101, 102]⟩) := Lib.hid (by rw [← hr, str_of s _ f6]; decide)
    clear hr
    go_enter Try.func18, Try.ntmps18
    go_wp2
    go_ret
    exact ⟨ret_str HV.out.symm, rfl⟩
  cases f7 : (s.toList == [108, 105, 110, 101, 97, 114, 103, 114, 97, 100, 105, 101, 110, 116])
  case true =>
    have HV : Hid (r = ⟨#[108, 105, 110, 101, 97, 114, 71, 114, 97, 100, 105, 101, 110, 116]⟩) := Lib.hid (by rw [← hr, str_of s _ f7]; decide)
    clear hr
    go_enter Try.func18, Try.ntmps18
    go_wp2
    go_ret
    exact ⟨ret_str HV.out.symm, rfl⟩
  cases f8 : (s.toList == [114, 97, 100, 105, 97, 108, 103, 114, 97, 100, 105, 101, 110, 116])
  case true =>
    have HV : Hid (r = ⟨#[114, 97, 100, 105, 97, 108, 71, 114, 97, 100, 105, 101, 110, 116]⟩) := Lib.hid (by rw [← hr, str_of s _ f8]; decide)
    clear hr
    go_enter Try.func18, Try.ntmps18
    go_wp2
    go_ret
    exact ⟨ret_str HV.out.symm, rfl⟩
  cases f9 : (s.toList == [116, 101, 120, 116, 112, 97, 116, 104])
  case true =>
    have HV : Hid (r = ⟨#[116, 101, 120, 116, 80, 97, 116, 104]⟩) := Lib.hid (by rw [← hr, str_of s _ f9]; decide)
    clear hr
    go_enter Try.func18, Try.ntmps18
    go_wp2
    go_ret
    exact ⟨ret_str HV.out.symm, rfl⟩
  have HV : Hid (r = s) := Lib.hid (by rw [← hr]; exact eNames_no s f0 f1 f2 f3 f4 f5 f6 f7 f8 f9)
  clear hr
  go_enter Try.func18, Try.ntmps18
  go_wp2
  go_ret
  exact ⟨ret_str HV.out.symm, rfl⟩

theorem name_any (space : Int) (s : ByteArray) (w : World) : Calls Try.prog 18 #[.int .i64 space, .string s] w fun e w' => e = .returned (.string (nam space s)) ∧ w = w' := by
  by_cases h1 : space = 1
  · subst h1
    rw [show nam 1 s = look s eNames by simp [nam]]
    exact name_one s w
  · have hb : (space == 1) = false := beq_eq_false_iff_ne.2 h1
    have hd : (space != 1) = true := by simp [bne, hb]
    rw [show nam space s = s by simp [nam, h1]]
    clear h1
    go_enter Try.func18, Try.ntmps18
    go_wp2
    go_ret
    exact ⟨rfl, rfl⟩

set_option maxHeartbeats 2000000 in
theorem attrName_any (space : Int) (s : ByteArray) (w : World) : Calls Try.prog 26 #[.int .i64 space, .string s] w fun e w' => e = .returned (.string (atn space s)) ∧ w = w' := by
  by_cases h1 : space = 1
  · subst h1
    rw [show atn 1 s = look s aNames by simp [atn]]
    have hc := attrSVG_any s
    generalize look s aNames = r at hc
    have HC := Lib.hid hc
    clear hc
    go_enter Try.func26, Try.ntmps26
    go_wp2_with fail
    refine (HC.out _).mono ?_; rintro e w' ⟨rfl, rfl⟩
    go_wp2
    go_ret
    exact ⟨rfl, rfl⟩
  have b1 : (space == 1) = false := beq_eq_false_iff_ne.2 h1
  by_cases h2 : space = 2
  · subst h2
    obtain ⟨r, hr⟩ : ∃ r, atn 2 s = r := ⟨_, rfl⟩
    rw [hr]
    unfold atn at hr
    rw [if_neg (by decide), if_pos rfl] at hr
    clear h1 b1
    cases f0 : (s.toList == [100, 101, 102, 105, 110, 105, 116, 105, 111, 110, 117, 114, 108])
    case true =>
      have HV : Hid (r = ⟨#[100, 101, 102, 105, 110, 105, 116, 105, 111, 110, 85, 82, 76]⟩) := Lib.hid (by rw [← hr, str_of s _ f0]; decide)
      clear hr
      go_enter Try.func26, Try.ntmps26
      go_wp2
      go_ret
      exact ⟨ret_str HV.out.symm, rfl⟩
    have HV : Hid (r = s) := Lib.hid (by rw [← hr]; exact dNames_no s f0)
    clear hr
    go_enter Try.func26, Try.ntmps26
    go_wp2
    go_ret
    exact ⟨ret_str HV.out.symm, rfl⟩
  have b2 : (space == 2) = false := beq_eq_false_iff_ne.2 h2
  rw [show atn space s = s by simp [atn, h1, h2]]
  clear h1 h2
  go_enter Try.func26, Try.ntmps26
  go_wp2
  go_ret
  exact ⟨rfl, rfl⟩

set_option maxHeartbeats 2000000 in
theorem large_any (word : ByteArray) (B n c : Nat) (L : List ByteArray) (w : World) (h : Words w B L) (hn : L.length = n) (hb : n ≤ 1000) (hsm : ∀ x ∈ L, x.size ≤ 1000) :
    Calls Try.prog 24 #[.string word, .slice (some ⟨B, 0, none⟩) n c] w fun e w' => e = .returned (.string (look word L)) ∧ Below w.heap.size w w' := by
  obtain ⟨r, hr⟩ : ∃ r, look word L = r := ⟨_, rfl⟩
  rw [hr]
  have HV := Lib.hid hr
  have HW := Lib.hid h
  have HN := Lib.hid hn
  have HS := Lib.hid hsm
  clear h hn hr hsm
  go_enter Try.func24, Try.ntmps24
  go_wp2
  go_loopw [5] (fun i wr => ∃ j : Nat, j ≤ n ∧ i = .int .i64 j ∧ (∀ k (hk : k < j) (hl : k < L.length), (L[k].data.toList.map low == word.data.toList) = false) ∧ Below w.heap.size w wr) (fun i _ => n - (intOf i).toNat)
  case atStart => exact ⟨0, by omega, rfl, fun k hk => by omega, Below.refl _ _⟩
  case round =>
    obtain ⟨j, hj, rfl, hno, hbel⟩ := hrel
    by_cases hlt : j < n
    · have hjl : j < L.length := by rw [HN.out]; exact hlt
      have hc := (hbel.cell (p := ⟨B, j, none⟩) HW.out.lt).trans (HW.out.at_ j hjl)
      have hlow := fun wx => reflower_any L[j] wx (by have := HS.out _ (List.getElem_mem hjl); omega)
      have hyes : (L[j].data.toList.map low == word.data.toList) = true → look word L = L[j] := fun h => look_at j hjl (fun i hi => hno i hi (by omega)) h
      have hnx : (L[j].data.toList.map low == word.data.toList) = false → ∀ k (hk : k < j + 1) (hl : k < L.length), (L[k].data.toList.map low == word.data.toList) = false := fun hf k hk hl => by
        by_cases e : k = j
        · subst e; exact hf
        · exact hno k (by omega) hl
      have hkeep : ∀ wx, Below wr.heap.size wr wx → wx.cell? ⟨B, j, none⟩ = some (.string L[j]) := fun wx hb => (hb.cell (p := ⟨B, j, none⟩) (by have := HW.out.lt; have := hbel.size; simp; omega)).trans hc
      generalize L[j] = s at hc hyes hnx hlow hkeep
      obtain ⟨z, hz⟩ : ∃ z : ByteArray, z = ⟨(s.data.toList.map low).toArray⟩ := ⟨_, rfl⟩
      have hz2 : z.toList = s.data.toList.map low := by rw [Lib.toList_data, hz]
      rw [← hz] at hlow
      rw [← hz2, ← Lib.toList_data word] at hyes hnx
      have HY := Lib.hid hyes
      have HX := Lib.hid hnx
      have HL := Lib.hid hlow
      have HB := Lib.hid hbel
      have HK := Lib.hid hkeep
      clear hno hyes hnx hlow hz hz2 hbel hkeep
      cases ht : (z.toList == word.toList)
      · rw [ht] at HX
        go_wp2_with fail
        refine (HL.out _).mono ?_; rintro e w2 ⟨rfl, hb2⟩
        have HB2 := Lib.hid (HB.out.trans (hb2.mono HB.out.size))
        have hc2 := HK.out _ hb2
        clear hb2 hc
        go_wp2
        go_roundw
        case rel => exact ⟨j + 1, by omega, by go_num, by have := HX.out (by simp); simpa only [Lib.toList_data] using this, HB2.out⟩
        case measure => simp [intOf]; omega
      · rw [ht] at HY
        go_wp2_with fail
        refine (HL.out _).mono ?_; rintro e w2 ⟨rfl, hb2⟩
        have HB2 := Lib.hid (HB.out.trans (hb2.mono HB.out.size))
        have hc2 := HK.out _ hb2
        clear hb2 hc
        go_wp2
        go_ret
        exact ⟨ret_str (by rw [← HV.out]; exact (HY.out (by simp)).symm), HB2.out⟩
    · have hn : look word L = word := look_none fun i hi => hno i (by have := HN.out; omega) hi
      have HX := Lib.hid hn
      have HB := Lib.hid hbel
      clear hn hno hbel
      go_wp2
      go_ret
      exact ⟨ret_str (by rw [← HV.out]; exact HX.out.symm), HB.out⟩
end Go.Proofs.Ytopmahhlebkjiaa
