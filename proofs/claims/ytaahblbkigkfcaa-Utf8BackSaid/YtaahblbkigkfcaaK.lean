/- The document's answer for numbers written as characters; two rows of numbers. -/
import Derived.Test.YtaahblbkigkfcaaN
import Derived.Test.YtaahblbkigkfcaaH
import Derived.IntWalk
set_option linter.unusedVariables false
namespace Go.Proofs.Ytaahblbkigkfcaa
open Go.RowKit

theorem ret_bool {a b : Bool} (h : a = b) : Ending.returned (.bool a) = .returned (.bool b) := by rw [h]
def chB (n : Int) : Bool := decide (isChar n)
theorem chB_yes {n : Int} (h : isChar n) : chB n = true := decide_eq_true h
theorem chB_no {n : Int} (h : ¬ isChar n) : chB n = false := decide_eq_false h

set_option maxHeartbeats 1000000 in
theorem char_any (n : Int) (w : World) : Calls Try.prog 28 #[.int .i64 n] w fun e w' => e = .returned (.bool (chB n)) ∧ w = w' := by
  by_cases h0 : n < 0
  · rw [chB_no (by unfold isChar; omega)]
    go_enter Try.func28, Try.ntmps28
    go_wp2
    go_ret
    exact ⟨rfl, rfl⟩
  have h0' : 0 ≤ n := by omega
  by_cases h1 : n ≤ 1114111
  · by_cases h2 : n < 55296
    · rw [chB_yes (by unfold isChar; omega)]
      clear h0
      go_enter Try.func28, Try.ntmps28
      go_wp2
      go_ret
      exact ⟨rfl, rfl⟩
    · have h2' : 55296 ≤ n := by omega
      by_cases h3 : 57343 < n
      · rw [chB_yes (by unfold isChar; omega)]
        clear h0 h2
        go_enter Try.func28, Try.ntmps28
        go_wp2
        go_ret
        exact ⟨rfl, rfl⟩
      · have h3' : n ≤ 57343 := by omega
        rw [chB_no (by unfold isChar; omega)]
        clear h0 h2 h3
        go_enter Try.func28, Try.ntmps28
        go_wp2
        go_ret
        exact ⟨ret_bool (by simp; omega), rfl⟩
  · have h1' : 1114111 < n := by omega
    rw [chB_no (by unfold isChar; omega)]
    clear h0 h1
    go_enter Try.func28, Try.ntmps28
    go_wp2
    go_ret
    exact ⟨rfl, rfl⟩

set_option maxRecDepth 100000 in
theorem enc_cells {n : Int} (h : isChar n) :
    (n < 128 ∧ (Lib.byteCells (enc n)).toArray = #[.int .u8 n]) ∨
    (128 ≤ n ∧ n < 2048 ∧ (Lib.byteCells (enc n)).toArray = #[.int .u8 (192 + n / 64), .int .u8 (128 + n % 64)]) ∨
    (2048 ≤ n ∧ n < 65536 ∧ (Lib.byteCells (enc n)).toArray = #[.int .u8 (224 + n / 4096), .int .u8 (128 + n / 64 % 64), .int .u8 (128 + n % 64)]) ∨
    (65536 ≤ n ∧ n ≤ 1114111 ∧ (Lib.byteCells (enc n)).toArray = #[.int .u8 (240 + n / 262144), .int .u8 (128 + n / 4096 % 64), .int .u8 (128 + n / 64 % 64), .int .u8 (128 + n % 64)]) := by
  have h0 : 0 ≤ n := by unfold isChar at h; omega
  have hm : n ≤ 1114111 := by unfold isChar at h; omega
  obtain ⟨v, rfl⟩ := Int.eq_ofNat_of_zero_le h0
  have hva : Utf8.valid (v : Int) = true := by unfold isChar at h; simp only [Utf8.valid, Bool.or_eq_true, Bool.and_eq_true, decide_eq_true_eq]; omega
  by_cases g1 : v < 128
  · left
    refine ⟨by omega, ?_⟩
    have he : enc v = [UInt8.ofNat v] := by simp [enc, Utf8.encode, hva, g1]
    have t := toNat_of (n := v) (by omega)
    rw [he]; simp [Lib.byteCells]; omega
  by_cases g2 : v < 2048
  · right; left
    refine ⟨by omega, by omega, ?_⟩
    have he : enc v = [UInt8.ofNat (192 + v / 64), UInt8.ofNat (128 + v % 64)] := by simp [enc, Utf8.encode, hva, g1, g2]
    rw [he]; simp [Lib.byteCells]; omega
  by_cases g3 : v < 65536
  · right; right; left
    refine ⟨by omega, by omega, ?_⟩
    have he : enc v = [UInt8.ofNat (224 + v / 4096), UInt8.ofNat (128 + v / 64 % 64), UInt8.ofNat (128 + v % 64)] := by simp [enc, Utf8.encode, hva, g1, g2, g3]
    rw [he]; simp [Lib.byteCells]; omega
  · right; right; right
    refine ⟨by omega, by omega, ?_⟩
    have he : enc v = [UInt8.ofNat (240 + v / 262144), UInt8.ofNat (128 + v / 4096 % 64), UInt8.ofNat (128 + v / 64 % 64), UInt8.ofNat (128 + v % 64)] := by simp [enc, Utf8.encode, hva, g1, g2, g3]
    rw [he]; simp [Lib.byteCells]; omega
theorem byteCells_len (l : List UInt8) (C : Array Value) (h : (Lib.byteCells l).toArray = C) : l.length = C.size := by
  rw [← h]; simp [Lib.byteCells]

set_option maxHeartbeats 2000000 in
theorem bytes_any (n : Int) (hn : isChar n) (w : World) : Calls Try.prog 34 #[.int .i64 n] w fun e w' => e = .returned (.slice (some ⟨w.heap.size, 0, none⟩) (enc n).length (enc n).length) ∧ w' = w.alloc (.cells (Lib.byteCells (enc n)).toArray 5) := by
  have h0 : 0 ≤ n := by unfold isChar at hn; omega
  have hm : n ≤ 1114111 := by unfold isChar at hn; omega
  rcases enc_cells hn with ⟨h1, hc⟩ | ⟨h1, h2, hc⟩ | ⟨h1, h2, hc⟩ | ⟨h1, h2, hc⟩
  all_goals
    rw [byteCells_len _ _ hc, hc]
    clear hc hn
    go_enter Try.func34, Try.ntmps34
    go_wp2
    go_ret
    exact ⟨rfl, rfl⟩

theorem lit_src (l : List UInt8) (wx : World) (h : l.length ≤ 9223372036854775807) : Src (wx.alloc (.cells (Lib.byteCells l).toArray 5)) (some ⟨wx.heap.size, 0, none⟩) l.length l := ⟨lit_bytes l wx, Nat.le_refl _, h, fun h => by cases h⟩
theorem odd_char : isChar 65533 := by unfold isChar; omega
/-- a number, or the odd one -/
def fixi (x : Int) : Int := if chB x = true then x else 65533
theorem fixi_char (x : Int) : isChar (fixi x) := by
  unfold fixi chB
  by_cases h : isChar x
  · simp [h]
  · simp only [h, decide_false]; exact odd_char
theorem enc_fix (x : Int) : enc (fixi x) = enc x := by
  unfold fixi chB
  by_cases h : isChar x
  · simp [h]
  · simp only [h, decide_false]
    rw [enc_bad x h]
    have := (enc_val fffd good_fffd).1
    rw [val_fffd] at this
    exact this

set_option maxHeartbeats 4000000 in
theorem refenc_any (a : Option Addr) (c : Nat) (l : List Int) (w : World) (hr : Nums w a l) (hbig : l.length ≤ 35184372088832) (hb32 : ∀ x ∈ l, -2147483648 ≤ x ∧ x ≤ 2147483647) :
    Calls Try.prog 22 #[.slice a l.length c] w fun e w' => e = .returned (.string ⟨(encs l).toArray⟩) ∧ Below w.heap.size w w' := by
  have HN := Lib.hid hr
  have H32 := Lib.hid hb32
  obtain ⟨E, hE⟩ : ∃ E, E = encs l := ⟨_, rfl⟩
  rw [← hE]
  have HE := Lib.hid hE
  clear hr hE hb32
  go_enter Try.func22, Try.ntmps22
  go_wp2_with fail
  go_loopw [3, 4] (fun v i wr => ∃ j : Nat, j ≤ l.length ∧ i = .int .i64 j ∧ wr.ownsRow w.heap.size 5 1 v (encs (l.take j)).length (Lib.byteCells (encs (l.take j))) ∧ Below w.heap.size w wr) (fun _ i _ => l.length - (intOf i).toNat)
  case atStart => exact ⟨0, by omega, rfl, by have := World.ownsRow_nil w w.heap.size 5 1; exact this, Below.refl _ _⟩
  case round =>
    obtain ⟨j, hj, rfl, hown, hb⟩ := hrel
    by_cases hlt : j < l.length
    · obtain ⟨sb, so, rfl, hsb, hcell⟩ := HN.out j hlt
      have hcell2 := (hb.cell (p := ⟨sb, so + j, none⟩) hsb).trans hcell
      have hx := H32.out _ (List.getElem_mem hlt)
      have hstep := encs_snoc l j hlt
      have hel := encs_len (l.take j)
      rw [List.length_take] at hel
      have hel2 := enc_len l[j]
      generalize l[j] = x at hcell2 hx hstep hel2
      have hby : ∀ wx, Calls Try.prog 34 #[.int .i64 (fixi x)] wx fun e w' => e = .returned (.slice (some ⟨wx.heap.size, 0, none⟩) (enc x).length (enc x).length) ∧ wx.alloc (.cells (Lib.byteCells (enc x)).toArray 5) = w' := fun wx => by
        have := bytes_any (fixi x) (fixi_char x) wx
        rw [enc_fix] at this
        exact this.mono fun e w' ⟨h1, h2⟩ => ⟨h1, h2.symm⟩
      obtain ⟨hx1, hx2⟩ := hx
      have hch := char_any x
      have hsr := lit_src (enc x) wr (by omega)
      have hown2 := hown.alloc (.cells (Lib.byteCells (enc x)).toArray 5)
      have hb2 : Below w.heap.size w (wr.alloc (.cells (Lib.byteCells (enc x)).toArray 5)) := hb.alloc hb.size _
      have hwsz : w.heap.size ≤ (wr.alloc (.cells (Lib.byteCells (enc x)).toArray 5)).heap.size := hb2.size
      have HBY := Lib.hid hby
      have HST := Lib.hid hstep
      have HCH := Lib.hid hch
      have HSR := Lib.hid hsr
      have HO2 := Lib.hid hown2
      have HB2 := Lib.hid hb2
      have HSZ := Lib.hid hwsz
      clear hown hb hcell hstep hby hch hsr hown2 hb2 hwsz
      have hfx : fixi x = if chB x = true then x else 65533 := rfl
      have HFX := Lib.hid hfx
      clear hfx
      cases hcb : chB x
      · have HF : Hid (fixi x = 65533) := Lib.hid (by rw [HFX.out, hcb]; rfl)
        rw [hcb] at HCH
        rw [HF.out] at HBY
        clear hcb HFX
        go_wp2_with fail
        refine (HCH.out _).mono ?_; rintro e w2 ⟨rfl, rfl⟩
        go_wp2_with fail
        refine (HBY.out _).mono ?_; rintro e w2 ⟨rfl, rfl⟩
        go_wp2_with (at_builtin; refine app_bytes rfl _ _ rfl w.heap.size _ (encs (l.take j)) rfl HO2.out _ (enc x).length _ (enc x) rfl rfl HSR.out ?n2 HSZ.out ?_)
        case n2 => omega
        intro v3 w3 hown3 hb3 _
        have HO3 : Hid (w3.ownsRow w.heap.size 5 1 v3 (encs (l.take (j + 1))).length (Lib.byteCells (encs (l.take (j + 1))))) := Lib.hid (by rw [HST.out]; exact hown3)
        have HB3 := Lib.hid (HB2.out.trans hb3.out)
        clear hown3 hb3
        go_wp2
        go_roundw
        case rel => exact ⟨j + 1, by omega, by go_num, HO3.out, HB3.out⟩
        case measure => simp [intOf]; omega
      · have HF : Hid (fixi x = x) := Lib.hid (by rw [HFX.out, hcb]; rfl)
        rw [hcb] at HCH
        rw [HF.out] at HBY
        clear hcb HFX
        go_wp2_with fail
        refine (HCH.out _).mono ?_; rintro e w2 ⟨rfl, rfl⟩
        go_wp2_with fail
        refine (HBY.out _).mono ?_; rintro e w2 ⟨rfl, rfl⟩
        go_wp2_with (at_builtin; refine app_bytes rfl _ _ rfl w.heap.size _ (encs (l.take j)) rfl HO2.out _ (enc x).length _ (enc x) rfl rfl HSR.out ?n2 HSZ.out ?_)
        case n2 => omega
        intro v3 w3 hown3 hb3 _
        have HO3 : Hid (w3.ownsRow w.heap.size 5 1 v3 (encs (l.take (j + 1))).length (Lib.byteCells (encs (l.take (j + 1))))) := Lib.hid (by rw [HST.out]; exact hown3)
        have HB3 := Lib.hid (HB2.out.trans hb3.out)
        clear hown3 hb3
        go_wp2
        go_roundw
        case rel => exact ⟨j + 1, by omega, by go_num, HO3.out, HB3.out⟩
        case measure => simp [intOf]; omega
    · have hjl : l.take j = l := List.take_of_length_le (by omega)
      rw [hjl, ← HE.out] at hown
      obtain ⟨a3, c3, rfl, _, hs3⟩ := own_src hown
      have hcv := conv_src wr a3 c3 E hs3
      have HB2 := Lib.hid hb
      clear hb hown hs3 hjl
      go_wp2
      go_ret
      exact ⟨rfl, HB2.out⟩

theorem below_drewN {B : Nat} (w : World) (k : Nat) : Below B w (w.drewN k) := ⟨rfl, rfl, rfl, Nat.le_refl _, fun _ _ => rfl⟩
set_option maxHeartbeats 4000000 in
theorem lrunes_any (a1 a2 : Option Addr) (c1 c2 : Nat) (l : List Int) (w : World) (h1 : Nums w a1 l) (h2 : Nums w a2 l) (hbig : l.length ≤ 35184372088832) :
    Calls Try.prog 17 #[.slice a1 l.length c1, .slice a2 l.length c2] w fun e w' => e = .returned (.bool true) ∧ Below w.heap.size w w' := by
  have H1 := Lib.hid h1
  have H2 := Lib.hid h2
  clear h1 h2
  go_enter Try.func17, Try.ntmps17
  go_wp2
  go_loopw [5] (fun i wr => ∃ j : Nat, j ≤ l.length ∧ i = .int .i64 j ∧ Below w.heap.size w wr) (fun i _ => l.length - (intOf i).toNat)
  case atStart => exact ⟨0, by omega, rfl, Below.refl _ _⟩
  case round =>
    obtain ⟨j, hj, rfl, hb⟩ := hrel
    by_cases hlt : j < l.length
    · obtain ⟨b1, o1, rfl, hb1, hc1⟩ := H1.out j hlt
      obtain ⟨b2, o2, rfl, hb2, hc2⟩ := H2.out j hlt
      have d1 := (hb.cell (p := ⟨b1, o1 + j, none⟩) hb1).trans hc1
      have d2 := (hb.cell (p := ⟨b2, o2 + j, none⟩) hb2).trans hc2
      have HB := Lib.hid hb
      clear hc1 hc2 hb
      generalize l[j] = x at d1 d2
      go_wp2
      go_quiet (fail)
      go_wp2
      go_roundw
      case rel => exact ⟨j + 1, by omega, by go_num, HB.out.trans (below_drewN _ _)⟩
      case measure => simp [intOf]; omega
    · have HB := Lib.hid hb
      clear hb
      go_wp2
      go_ret
      exact ⟨rfl, HB.out⟩
end Go.Proofs.Ytaahblbkigkfcaa
