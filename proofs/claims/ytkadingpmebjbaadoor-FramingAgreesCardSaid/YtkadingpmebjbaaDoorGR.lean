/- FieldsRights. -/
import Derived.Test.YtkadingpmebjbaaDoorFI
set_option linter.unusedVariables false
namespace Go.Proofs.YtkadingpmebjbaaDoor
open Go.RowKit

theorem app_below {w w1 w2 : World} (h1 : Below w.heap.size w w1) (h2 : Below w1.heap.size w1 w2) : Below w.heap.size w w2 := h1.trans (h2.mono h1.size)
set_option maxHeartbeats 16000000 in
set_option maxRecDepth 100000 in
theorem fieldsRights_any (l : AL) (av : Option Addr) (n c : Nat) (w : World) (hn : l.length = n) (hs : SrcA w av c l) (hz : asz l ≤ 1073741824) :
    Calls Tryd.prog 4 #[.slice av n c] w fun e w' => e = .returned (.bool true) ∧ Below w.heap.size w w' := by
  have hnb : n ≤ 1073741824 := by have := asz_len l; omega
  have HS := Lib.hid hs
  have HN := Lib.hid hn
  have HZ := Lib.hid hz
  have H0 := Lib.hid fun wx => shown4_any wx
  obtain ⟨r, hr⟩ : ∃ r, rgt l = r := ⟨_, rfl⟩
  obtain ⟨r1, r2⟩ := r
  obtain ⟨T, hT⟩ : ∃ T, fText l = T := ⟨_, rfl⟩
  have HR : Hid (∀ a c wx, SrcA wx a c l → Calls Tryd.prog 20 #[.slice a n c] wx fun e w' => e = .returned (.tuple #[.int .i64 (r1 : Nat), .int .i64 (r2 : Nat)]) ∧ Below wx.heap.size wx w') := Lib.hid fun a c wx h => by
    have := right_any l a n c wx hn h hz; rw [hr] at this; exact this
  have HQ : Hid (∀ a c wx, SrcA wx a c l → Calls Tryd.prog 21 #[.slice a n c] wx fun e w' => e = .returned (.tuple #[.int .i64 (r1 : Nat), .int .i64 (r2 : Nat)]) ∧ Below wx.heap.size wx w') := Lib.hid fun a c wx h => by
    have := rRight_any l a n c wx hn h hz; rw [hr] at this; exact this
  have HT : Hid (∀ a c wx, SrcA wx a c l → Calls Tryd.prog 22 #[.slice a n c] wx fun e w' => e = .returned (.string T) ∧ Below wx.heap.size wx w') := Lib.hid fun a c wx h => by
    have := ftext_any l a n c wx hn h hz; rw [hT] at this; exact this
  have HU : Hid (∀ a c wx, SrcA wx a c l → Calls Tryd.prog 24 #[.slice a n c] wx fun e w' => e = .returned (.string T) ∧ Below wx.heap.size wx w') := Lib.hid fun a c wx h => by
    have := rftext_any l a n c wx hn h hz; rw [hT] at this; exact this
  have HL : Hid (∀ a c wx, SrcA wx a c l → Calls Tryd.prog 19 #[.slice a n c] wx fun e w' => Below wx.heap.size wx w' ∧ ∃ g cap, e = .returned (.slice (some ⟨g, 0, none⟩) n cap) ∧ wx.heap.size ≤ g ∧ SrcA w' (some ⟨g, 0, none⟩) cap (l ++ [bang])) := Lib.hid fun a c wx h => by
    have := lent_any l a n c wx hn h hnb; unfold LentSays at this; rw [hn] at this; exact this
  have HK : Hid (∀ a c g cap wx, SrcA wx a c l → SrcA wx (some ⟨g, 0, none⟩) cap (l ++ [bang]) → Calls Tryd.prog 23 #[.slice (some ⟨g, 0, none⟩) n cap, .slice a n c] wx fun e w' => e = .returned (.bool true) ∧ Below wx.heap.size wx w') := Lib.hid fun a c g cap wx h1 h2 =>
    kept_any l a n c g cap wx hn h1 h2 hnb
  clear hs hn hz hr hT
  go_enter Tryd.func4, Tryd.ntmps4
  go_wp2_with fail
  refine (H0.out _).mono ?_; rintro e w1 ⟨rfl, hb⟩
  have HB1 := Lib.hid hb
  have HS1 := Lib.hid (HS.out.below (Nat.le_refl _) hb)
  clear hb
  go_wp2_with fail
  refine (HL.out _ _ _ HS1.out).mono ?_; rintro e w2 ⟨hb, g, cap, rfl, hge, hsl⟩
  have HB2 := Lib.hid (app_below HB1.out hb)
  have HS2 := Lib.hid (HS1.out.below (Nat.le_refl _) hb)
  have HL2 := Lib.hid hsl
  clear hb hsl hge
  go_wp2_with fail
  refine (HR.out _ _ _ (srcA_first HL2.out)).mono ?_; rintro e w3 ⟨rfl, hb⟩
  have HB3 := Lib.hid (app_below HB2.out hb)
  have HS3 := Lib.hid (HS2.out.below (Nat.le_refl _) hb)
  have HL3 := Lib.hid (HL2.out.below (Nat.le_refl _) hb)
  clear hb
  go_wp2_with fail
  refine (HQ.out _ _ _ HS3.out).mono ?_; rintro e w4 ⟨rfl, hb⟩
  have HB4 := Lib.hid (app_below HB3.out hb)
  have HS4 := Lib.hid (HS3.out.below (Nat.le_refl _) hb)
  have HL4 := Lib.hid (HL3.out.below (Nat.le_refl _) hb)
  clear hb
  go_wp2_with fail
  refine (HT.out _ _ _ (srcA_first HL4.out)).mono ?_; rintro e w5 ⟨rfl, hb⟩
  have HB5 := Lib.hid (app_below HB4.out hb)
  have HS5 := Lib.hid (HS4.out.below (Nat.le_refl _) hb)
  have HL5 := Lib.hid (HL4.out.below (Nat.le_refl _) hb)
  clear hb
  go_wp2_with fail
  refine (HK.out _ _ _ _ _ HS5.out HL5.out).mono ?_; rintro e w6 ⟨rfl, hb⟩
  have HB6 := Lib.hid (app_below HB5.out hb)
  have HS6 := Lib.hid (HS5.out.below (Nat.le_refl _) hb)
  clear hb
  go_wp2_with fail
  refine (HU.out _ _ _ HS6.out).mono ?_; rintro e w7 ⟨rfl, hb⟩
  have HB7 := Lib.hid (app_below HB6.out hb)
  clear hb
  go_wp2
  go_ret
  exact ⟨rfl, HB7.out⟩
end Go.Proofs.YtkadingpmebjbaaDoor
