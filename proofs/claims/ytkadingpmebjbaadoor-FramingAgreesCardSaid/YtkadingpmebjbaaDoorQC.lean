/- How a body ends: the program's read, Request and Response. -/
import Derived.Test.YtkadingpmebjbaaDoorQB
set_option linter.unusedVariables false
namespace Go.Proofs.YtkadingpmebjbaaDoor
open Go.RowKit

def RdSays (R : Rd) (w : World) (e : Ending) (w' : World) : Prop := e = .returned (.tuple #[.bool R.ch, .int .i64 R.len, .int .i64 R.code]) ∧ Below w.heap.size w w'
theorem rdSays {R : Rd} {a : Bool} {b c x y : Int} {w w' : World} (h : R = ⟨a, b, c⟩) (hx : x = b) (hy : y = c) (hb : Below w.heap.size w w') : RdSays R w (.returned (.tuple #[.bool a, .int .i64 x, .int .i64 y])) w' := by
  subst h hx hy; exact ⟨rfl, hb⟩
set_option maxHeartbeats 8000000 in
set_option maxRecDepth 100000 in
theorem read_any (l : AL) (av : Option Addr) (n c : Nat) (w : World) (hn : l.length = n) (hs : SrcA w av c l) (hz : asz l ≤ 1073741824) :
    Calls Tryd.prog 64 #[.slice av n c] w (RdSays (fread l) w) := by
  have hnb : n ≤ 1073741824 := by have := asz_len l; omega
  have hT := fun wx (hb : Below w.heap.size w wx) => count_any l kTE av n c wx hn (hs.below (Nat.le_refl _) hb) hz (by decide)
  have hC := fun wx (hb : Below w.heap.size w wx) => count_any l kCL av n c wx hn (hs.below (Nat.le_refl _) hb) hz (by decide)
  have hco := fun wx (hb : Below w.heap.size w wx) => coding_any l av n c wx hn (hs.below (Nat.le_refl _) hb) hz
  have hle := fun wx (hb : Below w.heap.size w wx) => length_any l av n c wx hn (hs.below (Nat.le_refl _) hb) hz
  have hl1 := allF_len l kTE
  have hl2 := allF_len l kCL
  obtain ⟨R, hR⟩ : ∃ R, R = fread l := ⟨_, rfl⟩
  rw [← hR]
  unfold fread at hR
  generalize (allF l kTE).length = nT at hT hR hl1
  generalize (allF l kCL).length = nC at hC hR hl2
  have hb1 : nT ≤ 1073741824 := by omega
  have hb2 : nC ≤ 1073741824 := by omega
  have HT : Hid (∀ wx, Below w.heap.size w wx → Calls Tryd.prog 28 #[.slice av n c, .string ⟨#[116, 114, 97, 110, 115, 102, 101, 114, 45, 101, 110, 99, 111, 100, 105, 110, 103]⟩] wx fun e w' => e = .returned (.int .i64 (nT : Nat)) ∧ Below wx.heap.size wx w') := Lib.hid hT
  have HC : Hid (∀ wx, Below w.heap.size w wx → Calls Tryd.prog 28 #[.slice av n c, .string ⟨#[99, 111, 110, 116, 101, 110, 116, 45, 108, 101, 110, 103, 116, 104]⟩] wx fun e w' => e = .returned (.int .i64 (nC : Nat)) ∧ Below wx.heap.size wx w') := Lib.hid hC
  by_cases h1 : 0 < nT
  · have g1 : (0 : Int) < (nT : Int) := by omega
    by_cases h2 : 0 < nC
    · have g2 : (0 : Int) < (nC : Int) := by omega
      rw [if_pos h1, if_pos h2] at hR
      have HV := Lib.hid hR
      clear hT hC hco hle hR hs hn hz hl1 hl2
      go_enter Tryd.func64, Tryd.ntmps64
      go_wp2_with fail
      refine (HT.out _ (Below.refl _ _)).mono ?_; rintro e w1 ⟨rfl, hb⟩
      have HB1 := Lib.hid hb
      clear hb
      go_wp2_with fail
      refine (HC.out _ HB1.out).mono ?_; rintro e w2 ⟨rfl, hb⟩
      have HB2 := Lib.hid (app_below HB1.out hb)
      clear hb
      go_wp2
      go_ret3
      exact rdSays HV.out rfl rfl HB2.out
    · have g2 : ¬ (0 : Int) < (nC : Int) := by omega
      rw [if_pos h1, if_neg h2] at hR
      obtain ⟨cc, hcc⟩ : ∃ cc : Int, cc = if fchk l = true then 0 else 21 := ⟨_, rfl⟩
      rw [← hcc] at hR hco
      have HV := Lib.hid hR
      have HCO := Lib.hid hco
      clear hT hC hco hle hR hs hn hz hl1 hl2 hcc
      go_enter Tryd.func64, Tryd.ntmps64
      go_wp2_with fail
      refine (HT.out _ (Below.refl _ _)).mono ?_; rintro e w1 ⟨rfl, hb⟩
      have HB1 := Lib.hid hb
      clear hb
      go_wp2_with fail
      refine (HC.out _ HB1.out).mono ?_; rintro e w2 ⟨rfl, hb⟩
      have HB2 := Lib.hid (app_below HB1.out hb)
      clear hb
      go_wp2_with fail
      refine (HCO.out _ HB2.out).mono ?_; rintro e w3 ⟨rfl, hb⟩
      have HB3 := Lib.hid (app_below HB2.out hb)
      clear hb
      go_wp2
      go_ret3
      exact rdSays HV.out rfl rfl HB3.out
  · have g1 : ¬ (0 : Int) < (nT : Int) := by omega
    by_cases h2 : 0 < nC
    · have g2 : (0 : Int) < (nC : Int) := by omega
      rw [if_neg h1, if_pos h2] at hR
      obtain ⟨lv, lc, hlv, hle2⟩ : ∃ lv lc : Int, R = ⟨false, lv, lc⟩ ∧ ∀ wx, Below w.heap.size w wx → Calls Tryd.prog 79 #[.slice av n c] wx fun e w' => e = .returned (.tuple #[.int .i64 lv, .int .i64 lc]) ∧ Below wx.heap.size wx w' := by
        cases hf : flen l with
        | none =>
          rw [hf] at hR hle
          exact ⟨-1, 20, hR, fun wx hb => (hle wx hb).mono fun e w' ⟨h1, h2⟩ => ⟨h2, h1⟩⟩
        | some m =>
          rw [hf] at hR hle
          exact ⟨m, 0, hR, fun wx hb => (hle wx hb).mono fun e w' ⟨h1, h2⟩ => ⟨h2, h1⟩⟩
      have HV := Lib.hid hlv
      have HLE := Lib.hid hle2
      clear hT hC hco hle hR hs hn hz hl1 hl2 hlv hle2
      go_enter Tryd.func64, Tryd.ntmps64
      go_wp2_with fail
      refine (HT.out _ (Below.refl _ _)).mono ?_; rintro e w1 ⟨rfl, hb⟩
      have HB1 := Lib.hid hb
      clear hb
      go_wp2_with fail
      refine (HC.out _ HB1.out).mono ?_; rintro e w2 ⟨rfl, hb⟩
      have HB2 := Lib.hid (app_below HB1.out hb)
      clear hb
      go_wp2_with fail
      refine (HLE.out _ HB2.out).mono ?_; rintro e w3 ⟨rfl, hb⟩
      have HB3 := Lib.hid (app_below HB2.out hb)
      clear hb
      go_wp2
      go_ret3
      exact rdSays HV.out rfl rfl HB3.out
    · have g2 : ¬ (0 : Int) < (nC : Int) := by omega
      rw [if_neg h1, if_neg h2] at hR
      have HV := Lib.hid hR
      clear hT hC hco hle hR hs hn hz hl1 hl2
      go_enter Tryd.func64, Tryd.ntmps64
      go_wp2_with fail
      refine (HT.out _ (Below.refl _ _)).mono ?_; rintro e w1 ⟨rfl, hb⟩
      have HB1 := Lib.hid hb
      clear hb
      go_wp2_with fail
      refine (HC.out _ HB1.out).mono ?_; rintro e w2 ⟨rfl, hb⟩
      have HB2 := Lib.hid (app_below HB1.out hb)
      clear hb
      go_wp2
      go_ret3
      exact rdSays HV.out rfl rfl HB2.out

def BdSays (R : Bd) (w : World) (e : Ending) (w' : World) : Prop := e = .returned (.tuple #[.agg #[.int .i64 R.kind, .int .i64 R.len], .int .i64 R.code]) ∧ Below w.heap.size w w'
theorem bdSays {R : Bd} {a b c x y z : Int} {w w' : World} (h : R = ⟨a, b, c⟩) (hx : x = a) (hy : y = b) (hz : z = c) (hb : Below w.heap.size w w') : BdSays R w (.returned (.tuple #[.agg #[.int .i64 x, .int .i64 y], .int .i64 z])) w' := by
  subst h hx hy hz; exact ⟨rfl, hb⟩
theorem measured_any (m : Int) (w : World) (h0 : 0 ≤ m) (h1 : m ≤ 9223372036854775807) :
    Calls Tryd.prog 65 #[.int .i64 m] w (BdSays (if 8192 < m then ⟨0, 0, 23⟩ else ⟨1, m, 0⟩) w) := by
  by_cases h : 8192 < m
  · rw [if_pos h]
    go_enter Tryd.func65, Tryd.ntmps65
    go_wp2
    exact bodyPost_ret (v := .tuple #[.agg #[.int .i64 0, .int .i64 0], .int .i64 23]) (by simp [results, Tryd.results65, go_sem]) rfl (bdSays rfl rfl rfl rfl ((Below.refl _ _).alloc (Nat.le_refl _) _))
  · rw [if_neg h]
    go_enter Tryd.func65, Tryd.ntmps65
    go_wp2
    exact bodyPost_ret (v := .tuple #[.agg #[.int .i64 1, .int .i64 m], .int .i64 0]) (by simp [results, Tryd.results65, go_sem]) rfl (bdSays rfl rfl rfl rfl ((Below.refl _ _).alloc (Nat.le_refl _) _))
end Go.Proofs.YtkadingpmebjbaaDoor
