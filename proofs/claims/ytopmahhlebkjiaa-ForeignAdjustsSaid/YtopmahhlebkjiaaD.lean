/- Points: what an element is one for. -/
import Derived.Test.YtopmahhlebkjiaaC
namespace Go.Proofs.Ytopmahhlebkjiaa
open Go.RowKit
set_option linter.unusedSimpArgs false

/-- an element of the page within a drawing -/
def ptSvg (nm : List UInt8) : Bool := nm == [102, 111, 114, 101, 105, 103, 110, 79, 98, 106, 101, 99, 116] || (nm == [100, 101, 115, 99] || nm == [116, 105, 116, 108, 101])
/-- an element that holds text within a formula -/
def ptMath (nm : List UInt8) : Bool := nm == [109, 105] || (nm == [109, 111] || (nm == [109, 110] || (nm == [109, 115] || nm == [109, 116, 101, 120, 116])))
def isAnn (nm : List UInt8) : Bool := nm == [97, 110, 110, 111, 116, 97, 116, 105, 111, 110, 45, 120, 109, 108]
def pt (space : Int) (nm : List UInt8) (l : List (ByteArray × ByteArray)) : Int :=
  if space = 1 then (if ptSvg nm = true then 2 else 0)
  else if space = 2 then (if ptMath nm = true then 1 else if isAnn nm = true then ann l else 0)
  else 0

set_option maxHeartbeats 2000000 in
theorem point_any (space : Int) (s : ByteArray) (w : World) (a : Option Addr) (n c : Nat) (l : List (ByteArray × ByteArray)) (h : Attrs w a n l) :
    Calls Try.prog 9 #[.int .i64 space, .string s, .slice a n c] w fun e w' => e = .returned (.int .i64 (pt space s.toList l)) ∧ Below w.heap.size w w' := by
  have ha := ann_any w a n c l h
  generalize hr : pt space s.toList l = r
  have HA := Lib.hid ha
  clear h ha
  by_cases e1 : space = 1
  · subst e1
    cases h0 : (s.toList == [102, 111, 114, 101, 105, 103, 110, 79, 98, 106, 101, 99, 116])
    · cases h1 : (s.toList == [100, 101, 115, 99])
      · cases h2 : (s.toList == [116, 105, 116, 108, 101])
        · have HV : Hid (r = 0) := Lib.hid (by rw [← hr]; simp [pt, ptSvg, ptMath, isAnn, h0, h1, h2])
          clear hr
          go_enter Try.func9, Try.ntmps9
          go_wp2
          go_ret
          exact ⟨ret_int HV.out.symm, Below.refl _ _⟩
        · have HV : Hid (r = 2) := Lib.hid (by rw [← hr]; simp [pt, ptSvg, ptMath, isAnn, h0, h1, h2])
          clear hr
          go_enter Try.func9, Try.ntmps9
          go_wp2
          go_ret
          exact ⟨ret_int HV.out.symm, Below.refl _ _⟩
      · have HV : Hid (r = 2) := Lib.hid (by rw [← hr]; simp [pt, ptSvg, ptMath, isAnn, h0, h1])
        clear hr
        go_enter Try.func9, Try.ntmps9
        go_wp2
        go_ret
        exact ⟨ret_int HV.out.symm, Below.refl _ _⟩
    · have HV : Hid (r = 2) := Lib.hid (by rw [← hr]; simp [pt, ptSvg, ptMath, isAnn, h0])
      clear hr
      go_enter Try.func9, Try.ntmps9
      go_wp2
      go_ret
      exact ⟨ret_int HV.out.symm, Below.refl _ _⟩
  by_cases e2 : space = 2
  · subst e2
    clear e1
    cases h0 : (s.toList == [109, 105])
    · cases h1 : (s.toList == [109, 111])
      · cases h2 : (s.toList == [109, 110])
        · cases h3 : (s.toList == [109, 115])
          · cases h4 : (s.toList == [109, 116, 101, 120, 116])
            · cases h5 : (s.toList == [97, 110, 110, 111, 116, 97, 116, 105, 111, 110, 45, 120, 109, 108])
              · have HV : Hid (r = 0) := Lib.hid (by rw [← hr]; simp [pt, ptSvg, ptMath, isAnn, h0, h1, h2, h3, h4, h5])
                clear hr
                go_enter Try.func9, Try.ntmps9
                go_wp2
                go_ret
                exact ⟨ret_int HV.out.symm, Below.refl _ _⟩
              · have HV : Hid (r = ann l) := Lib.hid (by rw [← hr]; simp [pt, ptSvg, ptMath, isAnn, h0, h1, h2, h3, h4, h5])
                clear hr
                go_enter Try.func9, Try.ntmps9
                go_wp2_with (go_at_call 21; refine (HA.out).mono ?_; rintro e w' ⟨rfl, hb⟩; have HB := Lib.hid hb; clear hb)
                go_ret
                exact ⟨ret_int HV.out.symm, HB.out⟩
            · have HV : Hid (r = 1) := Lib.hid (by rw [← hr]; simp [pt, ptSvg, ptMath, isAnn, h0, h1, h2, h3, h4])
              clear hr
              go_enter Try.func9, Try.ntmps9
              go_wp2
              go_ret
              exact ⟨ret_int HV.out.symm, Below.refl _ _⟩
          · have HV : Hid (r = 1) := Lib.hid (by rw [← hr]; simp [pt, ptSvg, ptMath, isAnn, h0, h1, h2, h3])
            clear hr
            go_enter Try.func9, Try.ntmps9
            go_wp2
            go_ret
            exact ⟨ret_int HV.out.symm, Below.refl _ _⟩
        · have HV : Hid (r = 1) := Lib.hid (by rw [← hr]; simp [pt, ptSvg, ptMath, isAnn, h0, h1, h2])
          clear hr
          go_enter Try.func9, Try.ntmps9
          go_wp2
          go_ret
          exact ⟨ret_int HV.out.symm, Below.refl _ _⟩
      · have HV : Hid (r = 1) := Lib.hid (by rw [← hr]; simp [pt, ptSvg, ptMath, isAnn, h0, h1])
        clear hr
        go_enter Try.func9, Try.ntmps9
        go_wp2
        go_ret
        exact ⟨ret_int HV.out.symm, Below.refl _ _⟩
    · have HV : Hid (r = 1) := Lib.hid (by rw [← hr]; simp [pt, ptSvg, ptMath, isAnn, h0])
      clear hr
      go_enter Try.func9, Try.ntmps9
      go_wp2
      go_ret
      exact ⟨ret_int HV.out.symm, Below.refl _ _⟩
  have b1 : (space == 1) = false := beq_eq_false_iff_ne.2 e1
  have b2 : (space == 2) = false := beq_eq_false_iff_ne.2 e2
  have HV : Hid (r = 0) := Lib.hid (by rw [← hr]; simp [pt, ptSvg, ptMath, isAnn, e1, e2])
  clear hr
  go_enter Try.func9, Try.ntmps9
  go_wp2
  go_ret
  exact ⟨ret_int HV.out.symm, Below.refl _ _⟩

theorem pt_vals (space : Int) (nm : List UInt8) (l : List (ByteArray × ByteArray)) : pt space nm l = 0 ∨ pt space nm l = 1 ∨ pt space nm l = 2 := by
  unfold pt
  have := ann_vals l
  split
  · split <;> simp
  · split
    · split
      · simp
      · split
        · omega
        · simp
    · simp
end Go.Proofs.Ytopmahhlebkjiaa
