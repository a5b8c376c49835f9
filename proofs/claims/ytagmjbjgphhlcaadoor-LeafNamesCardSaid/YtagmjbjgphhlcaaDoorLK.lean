/- The laws on single characters and on labels: the walks. -/
import Derived.Test.YtagmjbjgphhlcaaDoorLJ
set_option linter.unusedVariables false
namespace Go.Proofs.YtagmjbjgphhlcaaDoor
open Go.RowKit

set_option maxHeartbeats 4000000 in
set_option maxRecDepth 100000 in
theorem leafChars_walk (w : World) (c : Nat) (hc : c < 256) (r : Int) (hlo : -2147483648 ≤ r) (hhi : r ≤ 2147483647) :
    Calls Tryd.prog 3 #[.int .u8 c, .int .i32 r] w fun e w' => e = .returned (.bool true) ∧ Below w.heap.size w w' := by
  have hb1 := fun wx => byte_any r wx hlo hhi
  have hb2 := fun wx => rbyte_any r wx
  have hc1 := fun wx => char_any c hc wx
  have hc2 := fun wx => rchar_any c hc wx
  have hcl := cp_le hc
  have hb3 := fun wx => byte_ex (cp c : Nat) c true (bytIs_some hc rfl) (by omega) (by omega) wx
  have hi := i32_run r hlo hhi
  obtain ⟨y, hy⟩ : ∃ y : Int, y = ((cp c : Nat) : Int) := ⟨_, rfl⟩
  rw [← hy] at hc1 hc2 hb3
  have hy0 : 0 ≤ y := by omega
  have hy1 : y < 8500 := by omega
  have hc0 : 0 ≤ (c : Int) := by omega
  have hc255 : (c : Int) ≤ 255 := by omega
  have HC1 := Lib.hid hc1
  have HC2 := Lib.hid hc2
  have HB3 := Lib.hid hb3
  clear hc1 hc2 hb3 hy hcl hc
  cases hbx : byt r with
  | none =>
    have HB1 : Hid (∀ wx, Calls Tryd.prog 11 #[.int .i32 r] wx fun e w' => e = .returned (.tuple #[.int .u8 0, .bool false]) ∧ Below wx.heap.size wx w') := Lib.hid fun wx => (hb1 wx).mono fun e w' h => by
      unfold ByteSays bytV bytB at h; rw [hbx] at h; exact h
    have HB2 : Hid (∀ wx, Calls Tryd.prog 12 #[.int .i64 r] wx fun e w' => e = .returned (.int .i64 (-1)) ∧ Below wx.heap.size wx w') := Lib.hid fun wx => (hb2 wx).mono fun e w' h => by
      unfold rbyV at h; rw [hbx] at h; exact h
    clear hb1 hb2 hbx
    go_enter Tryd.func3, Tryd.ntmps3
    go_wp2_with fail
    refine (shown_any _).mono ?_; rintro e w1 ⟨rfl, hb⟩
    have B1 := Lib.hid hb
    clear hb
    go_wp2_with fail
    refine (HB1.out _).mono ?_; rintro e w2 ⟨rfl, hb⟩
    have B2 := Lib.hid (B1.out.trans (hb.mono B1.out.size))
    clear hb
    go_wp2_with fail
    refine (HB2.out _).mono ?_; rintro e w3 ⟨rfl, hb⟩
    have B3 := Lib.hid (B2.out.trans (hb.mono B2.out.size))
    clear hb
    go_wp2_with fail
    refine (HC1.out _).mono ?_; rintro e w4 ⟨rfl, hb⟩
    have B4 := Lib.hid (B3.out.trans (hb.mono B3.out.size))
    clear hb
    go_wp2_with fail
    refine (HC2.out _).mono ?_; rintro e w5 ⟨rfl, hb⟩
    have B5 := Lib.hid (B4.out.trans (hb.mono B4.out.size))
    clear hb
    go_wp2
    go_ret
    exact ⟨rfl, B5.out⟩
  | some v =>
    have hv := byt_is hbx
    have HB1 : Hid (∀ wx, Calls Tryd.prog 11 #[.int .i32 r] wx fun e w' => e = .returned (.tuple #[.int .u8 v, .bool true]) ∧ Below wx.heap.size wx w') := Lib.hid fun wx => (hb1 wx).mono fun e w' h => by
      unfold ByteSays bytV bytB at h; rw [hbx] at h; exact h
    have HB2 : Hid (∀ wx, Calls Tryd.prog 12 #[.int .i64 r] wx fun e w' => e = .returned (.int .i64 v) ∧ Below wx.heap.size wx w') := Lib.hid fun wx => (hb2 wx).mono fun e w' h => by
      unfold rbyV at h; rw [hbx] at h; exact h
    have hv0 : 0 ≤ (v : Int) := by omega
    have hv1 : (v : Int) ≤ 255 := by omega
    clear hb1 hb2 hbx hv
    go_enter Tryd.func3, Tryd.ntmps3
    go_wp2_with fail
    refine (shown_any _).mono ?_; rintro e w1 ⟨rfl, hb⟩
    have B1 := Lib.hid hb
    clear hb
    go_wp2_with fail
    refine (HB1.out _).mono ?_; rintro e w2 ⟨rfl, hb⟩
    have B2 := Lib.hid (B1.out.trans (hb.mono B1.out.size))
    clear hb
    go_wp2_with fail
    refine (HB2.out _).mono ?_; rintro e w3 ⟨rfl, hb⟩
    have B3 := Lib.hid (B2.out.trans (hb.mono B2.out.size))
    clear hb
    go_wp2_with fail
    refine (HC1.out _).mono ?_; rintro e w4 ⟨rfl, hb⟩
    have B4 := Lib.hid (B3.out.trans (hb.mono B3.out.size))
    clear hb
    go_wp2_with fail
    refine (HB3.out _).mono ?_; rintro e w5 ⟨rfl, hb⟩
    have B5 := Lib.hid (B4.out.trans (hb.mono B4.out.size))
    clear hb
    go_wp2_with fail
    refine (HC1.out _).mono ?_; rintro e w6 ⟨rfl, hb⟩
    have B6 := Lib.hid (B5.out.trans (hb.mono B5.out.size))
    clear hb
    go_wp2_with fail
    refine (HC2.out _).mono ?_; rintro e w7 ⟨rfl, hb⟩
    have B7 := Lib.hid (B6.out.trans (hb.mono B6.out.size))
    clear hb
    go_wp2
    go_ret
    exact ⟨rfl, B7.out⟩

def nameOf (c : Int) : ByteArray := if c = 1 then ⟨#[85, 84, 70, 45, 56]⟩ else if c = 2 then ⟨#[119, 105, 110, 100, 111, 119, 115, 45, 49, 50, 53, 50]⟩ else if c = 3 then ⟨#[85, 84, 70, 45, 49, 54]⟩ else ⟨#[]⟩
theorem ret_str {a b : ByteArray} (h : a = b) : Ending.returned (.string a) = .returned (.string b) := by rw [h]
theorem name_any (c : Int) (w : World) : Calls Tryd.prog 19 #[.int .i64 c] w fun e w' => e = .returned (.string (nameOf c)) ∧ w = w' := by
  by_cases h1 : c = 1
  · subst h1
    go_enter Tryd.func19, Tryd.ntmps19
    go_wp2
    go_ret
    exact ⟨rfl, rfl⟩
  by_cases h2 : c = 2
  · subst h2
    clear h1
    go_enter Tryd.func19, Tryd.ntmps19
    go_wp2
    go_ret
    exact ⟨rfl, rfl⟩
  by_cases h3 : c = 3
  · subst h3
    clear h1 h2
    go_enter Tryd.func19, Tryd.ntmps19
    go_wp2
    go_ret
    exact ⟨rfl, rfl⟩
  have HV : Hid (nameOf c = ⟨#[]⟩) := Lib.hid (by unfold nameOf; rw [if_neg h1, if_neg h2, if_neg h3])
  have g1 : (c == 1) = false := by simp [h1]
  have g2 : (c == 2) = false := by simp [h2]
  have g3 : (c == 3) = false := by simp [h3]
  clear h1 h2 h3
  go_enter Tryd.func19, Tryd.ntmps19
  go_wp2
  go_ret
  exact ⟨ret_str HV.out.symm, rfl⟩

set_option maxHeartbeats 4000000 in
set_option maxRecDepth 100000 in
theorem leafLabels_walk (w : World) (s : ByteArray) (hs : s.size ≤ 9223372036854775807) (c : Int) :
    Calls Tryd.prog 5 #[.string s, .int .i64 c] w fun e w' => e = .returned (.bool true) ∧ Below w.heap.size w w' := by
  have h1 := fun wx => label_any s wx hs
  have h2 := fun wx => rlabel_any s wx hs
  generalize labOf (wordOf s.data.toList) = v at h1 h2
  have H1 := Lib.hid h1
  have H2 := Lib.hid h2
  clear h1 h2
  have hn := fun wx => name_any c wx
  have hcase : c = 1 ∨ c = 2 ∨ c = 3 ∨ (c < 1 ∨ 3 < c) := by omega
  have hz : ∀ (w1 : World) (C : Array Value), Below w1.heap.size w1 (w1.alloc (.cells C 9)) := fun w1 C => (Below.refl _ _).alloc (Nat.le_refl _) _
  have HZ := Lib.hid hz
  clear hz
  rcases hcase with rfl | rfl | rfl | hc
  case inr.inr.inr =>
    have HV : nameOf c = ⟨#[]⟩ := by unfold nameOf; rw [if_neg (by omega), if_neg (by omega), if_neg (by omega)]
    rw [HV] at hn
    have HN := Lib.hid hn
    clear hn HV
    rcases hc with hc | hc
    · go_enter Tryd.func5, Tryd.ntmps5
      go_wp2_with fail
      refine (shown_any _).mono ?_; rintro e w1 ⟨rfl, hb⟩
      have B1 := Lib.hid hb
      clear hb
      go_wp2_with fail
      refine (HN.out _).mono ?_; rintro e w2 ⟨rfl, rfl⟩
      go_wp2_with fail
      refine (H1.out _).mono ?_; rintro e w3 ⟨rfl, hb⟩
      have B3 := Lib.hid (B1.out.trans (((HZ.out w1 _).trans (hb.mono (HZ.out w1 _).size)).mono B1.out.size))
      clear hb
      go_wp2_with fail
      refine (H2.out _).mono ?_; rintro e w4 ⟨rfl, hb⟩
      have B4 := Lib.hid (B3.out.trans (hb.mono B3.out.size))
      clear hb
      go_wp2
      go_ret
      exact ⟨rfl, B4.out⟩
    · have hc1 : 1 ≤ c := by omega
      go_enter Tryd.func5, Tryd.ntmps5
      go_wp2_with fail
      refine (shown_any _).mono ?_; rintro e w1 ⟨rfl, hb⟩
      have B1 := Lib.hid hb
      clear hb
      go_wp2_with fail
      refine (HN.out _).mono ?_; rintro e w2 ⟨rfl, rfl⟩
      go_wp2_with fail
      refine (H1.out _).mono ?_; rintro e w3 ⟨rfl, hb⟩
      have B3 := Lib.hid (B1.out.trans (((HZ.out w1 _).trans (hb.mono (HZ.out w1 _).size)).mono B1.out.size))
      clear hb
      go_wp2_with fail
      refine (H2.out _).mono ?_; rintro e w4 ⟨rfl, hb⟩
      have B4 := Lib.hid (B3.out.trans (hb.mono B3.out.size))
      clear hb
      go_wp2
      go_ret
      exact ⟨rfl, B4.out⟩
  all_goals
    have HN := Lib.hid hn
    clear hn
    unfold nameOf at HN
    simp only [reduceIte] at HN
    go_enter Tryd.func5, Tryd.ntmps5
    go_wp2_with fail
    refine (shown_any _).mono ?_; rintro e w1 ⟨rfl, hb⟩
    have B1 := Lib.hid hb
    clear hb
    go_wp2_with fail
    refine (HN.out _).mono ?_; rintro e w2 ⟨rfl, rfl⟩
    go_wp2_with fail
    refine (H1.out _).mono ?_; rintro e w3 ⟨rfl, hb⟩
    have B3 := Lib.hid (B1.out.trans (((HZ.out w1 _).trans (hb.mono (HZ.out w1 _).size)).mono B1.out.size))
    clear hb
    go_wp2_with fail
    refine (H2.out _).mono ?_; rintro e w4 ⟨rfl, hb⟩
    have B4 := Lib.hid (B3.out.trans (hb.mono B3.out.size))
    clear hb
    go_wp2
    go_ret
    exact ⟨rfl, B4.out⟩
end Go.Proofs.YtagmjbjgphhlcaaDoor
