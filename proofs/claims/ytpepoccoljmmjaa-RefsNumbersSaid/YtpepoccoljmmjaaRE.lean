/- A number, a reference: the program's. -/
import Derived.Test.YtpepoccoljmmjaaRD
set_option linter.unusedVariables false
namespace Go.Proofs.Ytpepoccoljmmjaa
open Go.RowKit Go.Shelf

set_option maxHeartbeats 2000000 in
theorem goes_any (c : UInt8) (w : World) : Calls Try.prog 36 #[.int .u8 c.toNat] w fun e w' => e = .returned (.bool (goes c)) ∧ w = w' := by
  have hl := letter_any c w
  have hd : Calls Try.prog 40 #[.int .u8 c.toNat, .int .i64 10] w fun e w' => e = .returned (.int .i64 (dg false c)) ∧ w = w' := digit_any false c w
  have hx0 : dg false c < 0 ∨ 0 ≤ dg false c := by omega
  have hdd : decide (0 ≤ dg false c) = (decide (48 ≤ c.toNat) && decide (c.toNat ≤ 57)) := by
    unfold dg; rw [Bool.eq_iff_iff]; simp; split <;> omega
  unfold goes
  rw [← hdd]
  generalize isLet c = a at hl ⊢
  generalize dg false c = d at hd hx0 ⊢
  clear hdd
  have h61 : (c.toNat = 61) = ((c.toNat : Int) = 61) := propext (by omega)
  simp only [h61]
  clear h61
  have h255 : (c.toNat : Int) ≤ 255 := by have := c.toNat_lt; omega
  obtain ⟨x, hx⟩ : ∃ x : Int, x = (c.toNat : Int) := ⟨_, rfl⟩
  rw [← hx] at hl hd h255 ⊢
  clear hx
  have HL := Lib.hid hl
  have HD := Lib.hid hd
  clear hl hd
  cases a
  · rcases hx0 with h | h
    · by_cases h6 : x = 61
      · have g : (x == 61) = true := by simp [h6]
        have H6 := Lib.hid h6
        clear h6
        go_enter Try.func36, Try.ntmps36
        go_wp2_with fail
        refine HL.out.mono ?_; rintro e w' ⟨rfl, rfl⟩
        go_wp2_with fail
        refine HD.out.mono ?_; rintro e w' ⟨rfl, rfl⟩
        go_wp2
        go_ret
        exact ⟨ret_bool (by simp [H6.out]), rfl⟩
      · have g : (x == 61) = false := by simp [h6]
        have H6 := Lib.hid h6
        clear h6
        go_enter Try.func36, Try.ntmps36
        go_wp2_with fail
        refine HL.out.mono ?_; rintro e w' ⟨rfl, rfl⟩
        go_wp2_with fail
        refine HD.out.mono ?_; rintro e w' ⟨rfl, rfl⟩
        go_wp2
        go_ret
        exact ⟨ret_bool (by first | (simp [H6.out]; done) | (simp [H6.out]; omega)), rfl⟩
    · go_enter Try.func36, Try.ntmps36
      go_wp2_with fail
      refine HL.out.mono ?_; rintro e w' ⟨rfl, rfl⟩
      go_wp2_with fail
      refine HD.out.mono ?_; rintro e w' ⟨rfl, rfl⟩
      go_wp2
      go_ret
      exact ⟨ret_bool (by simp [h]), rfl⟩
  · go_enter Try.func36, Try.ntmps36
    go_wp2_with fail
    refine HL.out.mono ?_; rintro e w' ⟨rfl, rfl⟩
    go_wp2
    go_ret
    exact ⟨ret_bool (by simp), rfl⟩

theorem ret_ii {a b n m : Int} (h : a = b) (h2 : n = m) : Ending.returned (.tuple #[.int .i64 a, .int .i64 n]) = .returned (.tuple #[.int .i64 b, .int .i64 m]) := by rw [h, h2]
theorem hexB_at {l : Bs} {k : Nat} (h : k < l.length) : hexB (l.drop k) = isX l[k] := by rw [List.drop_eq_getElem_cons h]; rfl
theorem hexB_end {l : Bs} {k : Nat} (h : l.length ≤ k) : hexB (l.drop k) = false := by rw [List.drop_eq_nil_of_le h]; rfl

set_option maxHeartbeats 2000000 in
theorem nbegins_any (X : ByteArray) (w : World) (hs : X.size ≤ 9223372036854775807) :
    Calls Try.prog 39 #[.string X] w fun e w' => e = .returned (.tuple #[.int .i64 ((2 + nbg (X.data.toList.drop 2) : Nat)), .int .i64 (bse (hexB (X.data.toList.drop 2)))]) ∧ w = w' := by
  have hll := len_data X
  unfold nbg
  obtain ⟨h, hh⟩ : ∃ h, h = hexB (X.data.toList.drop 2) := ⟨_, rfl⟩
  rw [← hh]
  by_cases hlt : 2 < X.size
  · rw [hexB_at (by omega)] at hh
    have hb : X[2] = X.data.toList[2]'(by omega) := by rw [byte_getD X 2 hlt, getD_at' (by omega)]
    rw [← hb] at hh
    have h255 : (X[2].toNat : Int) ≤ 255 := by have := X[2].toNat_lt; omega
    have hxx : h = (decide ((X[2].toNat : Int) = 120) || decide ((X[2].toNat : Int) = 88)) := by
      rw [hh]; unfold isX; rw [Bool.eq_iff_iff]; simp; omega
    clear hh hb hll
    by_cases h1 : (X[2].toNat : Int) = 120
    · obtain rfl : h = true := by rw [hxx]; simp [h1]
      have g1 : ((X[2].toNat : Int) == 120) = true := by simp [h1]
      clear hxx h1
      go_enter Try.func39, Try.ntmps39
      go_wp2
      go_ret2
      exact ⟨ret_ii rfl rfl, rfl⟩
    have g1 : ((X[2].toNat : Int) == 120) = false := by simp [h1]
    by_cases h2 : (X[2].toNat : Int) = 88
    · obtain rfl : h = true := by rw [hxx]; simp [h2]
      have g2 : ((X[2].toNat : Int) == 88) = true := by simp [h2]
      clear hxx h1 h2
      go_enter Try.func39, Try.ntmps39
      go_wp2
      go_ret2
      exact ⟨ret_ii rfl rfl, rfl⟩
    · obtain rfl : h = false := by rw [hxx]; simp [h1, h2]
      have g2 : ((X[2].toNat : Int) == 88) = false := by simp [h2]
      clear hxx h1 h2
      go_enter Try.func39, Try.ntmps39
      go_wp2
      go_ret2
      exact ⟨ret_ii rfl rfl, rfl⟩
  · rw [hexB_end (by omega)] at hh
    subst hh
    clear hll
    have h2 : (X.size : Int) ≤ 2 := by omega
    go_enter Try.func39, Try.ntmps39
    go_wp2
    go_ret2
    exact ⟨rfl, rfl⟩

theorem bs_enc (x : Int) : Utf8.encode x = bs (enc x) := by
  apply ByteArray.ext; unfold bs enc; simp
theorem ofInt_run (x : Int) (W : World) : (convert 21 9 (.int .i32 x)).run Try.prog W = .ok (.string (bs (enc x))) W := by
  rw [← bs_enc]
  exact run_convert_int_string (P := Try.prog) W 21 9 .i32 x (by rw [Try.underlying21]; rfl) Try.underlying9

set_option maxRecDepth 10000 in
set_option maxHeartbeats 2000000 in
theorem number_any (n : Int) (w : World) : Calls Try.prog 15 #[.int .i64 n] w fun e w' => e = .returned (.string (bs (numC n))) ∧ Below w.heap.size w w' := by
  obtain ⟨R, hR⟩ : ∃ R, R = bs (numC n) := ⟨_, rfl⟩
  rw [← hR]
  by_cases hbad : n ≤ 0 ∨ 1114111 < n ∨ (55296 ≤ n ∧ n ≤ 57343)
  · have HV : Hid (R = bs fffd) := Lib.hid (by rw [hR, numC_bad (by unfold isChar; omega)])
    clear hR
    have hbad' : n ≤ 0 ∨ (0 < n ∧ 1114111 < n) ∨ (0 < n ∧ n ≤ 1114111 ∧ 55296 ≤ n ∧ n ≤ 57343) := by omega
    clear hbad
    rcases hbad' with q1 | ⟨q1, q2⟩ | ⟨q1, q2, q3, q4⟩
    all_goals
      go_enter Try.func15, Try.ntmps15
      go_wp2
      go_ret
      exact ⟨ret_str (by rw [HV.out]; rfl), Below.refl _ _⟩
  by_cases hm : 128 ≤ n ∧ n ≤ 159
  · obtain ⟨k, rfl⟩ := Int.eq_ofNat_of_zero_le (show 0 ≤ n by omega)
    have hc := char_any k (by omega) w
    have HV : Hid (R = bs (enc (cp k : Nat))) := Lib.hid (by rw [hR, numC_cp (by omega) (by omega)])
    obtain ⟨x, hx⟩ : ∃ x : Int, x = (k : Int) := ⟨_, rfl⟩
    rw [← hx] at hc hm ⊢
    obtain ⟨q1, q2⟩ := hm
    have q3 : 0 < x := by omega
    have q4 : x < 55296 := by omega
    have q5 : x ≤ 1114111 := by omega
    have q6 : x < 256 := by omega
    clear hR hbad hx
    generalize ((cp k : Nat) : Int) = v at hc HV
    have hcv := ofInt_run v
    have HC := Lib.hid hc
    clear hc
    go_enter Try.func15, Try.ntmps15
    go_wp2_with fail
    try rw [show x % 256 = x by omega]
    refine HC.out.mono ?_; rintro e w1 ⟨rfl, hb⟩
    have HB := Lib.hid hb
    clear hb
    go_wp2
    go_ret
    exact ⟨ret_str HV.out.symm, HB.out⟩
  · have HV : Hid (R = bs (enc n)) := Lib.hid (by rw [hR, numC_plain (by omega) (by omega)])
    have hcv := ofInt_run n
    have h1 : 0 < n := by omega
    have h2 : n ≤ 1114111 := by omega
    have h3 : (n < 55296) ∨ (55296 ≤ n ∧ 57343 < n) := by omega
    have h4 : n < 128 ∨ (128 ≤ n ∧ 159 < n) := by omega
    clear hR hbad hm
    rcases h3 with h3 | ⟨h3, h3'⟩ <;> rcases h4 with h4 | ⟨h4, h4'⟩
    all_goals first | (exfalso; omega) | skip
    all_goals
      go_enter Try.func15, Try.ntmps15
      go_wp2
      go_ret
      exact ⟨ret_str HV.out.symm, Below.refl _ _⟩
end Go.Proofs.Ytpepoccoljmmjaa
