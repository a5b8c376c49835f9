/- The document's answer for a number written as a character. -/
import Derived.Test.YtpepoccoljmmjaaD
import Derived.IntWalk
set_option linter.unusedVariables false
namespace Go.Proofs.Ytpepoccoljmmjaa
open Go.RowKit

theorem ret_bool {a b : Bool} (h : a = b) : Ending.returned (.bool a) = .returned (.bool b) := by rw [h]

def chB (n : Int) : Bool := decide (isChar n)

theorem chB_yes {n : Int} (h : isChar n) : chB n = true := decide_eq_true h

theorem chB_no {n : Int} (h : ¬ isChar n) : chB n = false := decide_eq_false h

set_option maxHeartbeats 1000000 in
theorem uchar_any (n : Int) (w : World) : Calls Try.prog 25 #[.int .i64 n] w fun e w' => e = .returned (.bool (chB n)) ∧ w = w' := by
  by_cases h0 : n < 0
  · rw [chB_no (by unfold isChar; omega)]
    go_enter Try.func25, Try.ntmps25
    go_wp2
    go_ret
    exact ⟨rfl, rfl⟩
  have h0' : 0 ≤ n := by omega
  by_cases h1 : n ≤ 1114111
  · by_cases h2 : n < 55296
    · rw [chB_yes (by unfold isChar; omega)]
      clear h0
      go_enter Try.func25, Try.ntmps25
      go_wp2
      go_ret
      exact ⟨rfl, rfl⟩
    · have h2' : 55296 ≤ n := by omega
      by_cases h3 : 57343 < n
      · rw [chB_yes (by unfold isChar; omega)]
        clear h0 h2
        go_enter Try.func25, Try.ntmps25
        go_wp2
        go_ret
        exact ⟨rfl, rfl⟩
      · have h3' : n ≤ 57343 := by omega
        rw [chB_no (by unfold isChar; omega)]
        clear h0 h2 h3
        go_enter Try.func25, Try.ntmps25
        go_wp2
        go_ret
        exact ⟨ret_bool (by simp; omega), rfl⟩
  · have h1' : 1114111 < n := by omega
    rw [chB_no (by unfold isChar; omega)]
    clear h0 h1
    go_enter Try.func25, Try.ntmps25
    go_wp2
    go_ret
    exact ⟨rfl, rfl⟩

set_option maxRecDepth 100000 in
theorem enc_cells {n : Int} (h : isChar n) :
    (n < 128 ∧ (Lib.byteCells (enc n)).toArray = #[.int .u8 n]) ∨
    (128 ≤ n ∧ n < 2048 ∧ (Lib.byteCells (enc n)).toArray = #[.int .u8 (192 + n / 64), .int .u8 (128 + n % 64)]) ∨
    (2048 ≤ n ∧ n < 65536 ∧ (Lib.byteCells (enc n)).toArray = #[.int .u8 (224 + n / 4096), .int .u8 (128 + n / 64 % 64), .int .u8 (128 + n % 64)]) ∨
    (65536 ≤ n ∧ n ≤ 1114111 ∧ (Lib.byteCells (enc n)).toArray = #[.int .u8 (240 + n / 262144), .int .u8 (128 + n / 4096 % 64), .int .u8 (128 + n / 64 % 64), .int .u8 (128 + n % 64)]) := by
  have h0 : 0 ≤ n := by unfold isChar at h; omega
  have hm : n ≤ 1114111 := by unfold isChar at h; omega
  obtain ⟨v, rfl⟩ := Int.eq_ofNat_of_zero_le h0
  have hva : Utf8.valid (v : Int) = true := by unfold isChar at h; simp only [Utf8.valid, Bool.or_eq_true, Bool.and_eq_true, decide_eq_true_eq]; omega
  by_cases g1 : v < 128
  · left
    refine ⟨by omega, ?_⟩
    have he : enc v = [UInt8.ofNat v] := by simp [enc, Utf8.encode, hva, g1]
    have t := toNat_of (n := v) (by omega)
    rw [he]; simp [Lib.byteCells]; omega
  by_cases g2 : v < 2048
  · right; left
    refine ⟨by omega, by omega, ?_⟩
    have he : enc v = [UInt8.ofNat (192 + v / 64), UInt8.ofNat (128 + v % 64)] := by simp [enc, Utf8.encode, hva, g1, g2]
    rw [he]; simp [Lib.byteCells]; omega
  by_cases g3 : v < 65536
  · right; right; left
    refine ⟨by omega, by omega, ?_⟩
    have he : enc v = [UInt8.ofNat (224 + v / 4096), UInt8.ofNat (128 + v / 64 % 64), UInt8.ofNat (128 + v % 64)] := by simp [enc, Utf8.encode, hva, g1, g2, g3]
    rw [he]; simp [Lib.byteCells]; omega
  · right; right; right
    refine ⟨by omega, by omega, ?_⟩
    have he : enc v = [UInt8.ofNat (240 + v / 262144), UInt8.ofNat (128 + v / 4096 % 64), UInt8.ofNat (128 + v / 64 % 64), UInt8.ofNat (128 + v % 64)] := by simp [enc, Utf8.encode, hva, g1, g2, g3]
    rw [he]; simp [Lib.byteCells]; omega

theorem byteCells_len (l : List UInt8) (C : Array Value) (h : (Lib.byteCells l).toArray = C) : l.length = C.size := by
  rw [← h]; simp [Lib.byteCells]

set_option maxHeartbeats 2000000 in
theorem bytes_any (n : Int) (hn : isChar n) (w : World) : Calls Try.prog 26 #[.int .i64 n] w fun e w' => e = .returned (.slice (some ⟨w.heap.size, 0, none⟩) (enc n).length (enc n).length) ∧ w' = w.alloc (.cells (Lib.byteCells (enc n)).toArray 5) := by
  have h0 : 0 ≤ n := by unfold isChar at hn; omega
  have hm : n ≤ 1114111 := by unfold isChar at hn; omega
  rcases enc_cells hn with ⟨h1, hc⟩ | ⟨h1, h2, hc⟩ | ⟨h1, h2, hc⟩ | ⟨h1, h2, hc⟩
  all_goals
    rw [byteCells_len _ _ hc, hc]
    clear hc hn
    go_enter Try.func26, Try.ntmps26
    go_wp2
    go_ret
    exact ⟨rfl, rfl⟩

theorem lit_src (l : List UInt8) (wx : World) (h : l.length ≤ 9223372036854775807) : Src (wx.alloc (.cells (Lib.byteCells l).toArray 5)) (some ⟨wx.heap.size, 0, none⟩) l.length l := ⟨lit_bytes l wx, Nat.le_refl _, h, fun h => by cases h⟩

theorem odd_char : isChar 65533 := by unfold isChar; omega

/-- a number, or the odd one -/
def fixi (x : Int) : Int := if chB x = true then x else 65533

theorem fixi_char (x : Int) : isChar (fixi x) := by
  unfold fixi chB
  by_cases h : isChar x
  · simp [h]
  · simp only [h, decide_false]; exact odd_char

theorem enc_fix (x : Int) : enc (fixi x) = enc x := by
  unfold fixi chB
  by_cases h : isChar x
  · simp [h]
  · simp only [h, decide_false]
    rw [enc_bad x h]
    have := (enc_val fffd good_fffd).1
    rw [val_fffd] at this
    exact this

theorem below_drewN {B : Nat} (w : World) (k : Nat) : Below B w (w.drewN k) := ⟨rfl, rfl, rfl, Nat.le_refl _, fun _ _ => rfl⟩

end Go.Proofs.Ytpepoccoljmmjaa
