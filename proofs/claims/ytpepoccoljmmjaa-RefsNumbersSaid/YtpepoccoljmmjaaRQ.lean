/- Numbers and digits: the document's answers. -/
import Derived.Test.YtpepoccoljmmjaaRK
set_option linter.unusedVariables false
namespace Go.Proofs.Ytpepoccoljmmjaa
open Go.RowKit Go.Shelf

set_option maxRecDepth 10000 in
set_option maxHeartbeats 2000000 in
theorem rbeg_any (X P : ByteArray) (w : World) (hx : X.size ≤ 9223372036854775807) (hp : P.size ≤ 9223372036854775807) :
    Calls Try.prog 31 #[.string X, .string P] w fun e w' => e = .returned (.bool (Lib.hasPrefix X.data.toList P.data.toList)) ∧ w = w' := by
  have hraw := Lib.hasPrefix_raw X P
  obtain ⟨b, hb⟩ : ∃ b, b = Lib.hasPrefix X.data.toList P.data.toList := ⟨_, rfl⟩
  rw [← hb] at hraw ⊢
  clear hb
  clear hx hp
  have HR := Lib.hid hraw
  clear hraw
  go_enter Try.func31, Try.ntmps31
  go_wp2
  · rename_i h
    have e : decide (P.size ≤ X.size) = true := decide_eq_true (by omega)
    go_ret
    exact ⟨ret_bool (by have := HR.out; rw [e, Bool.true_and] at this; exact this), rfl⟩
  · rename_i h
    have e : decide (P.size ≤ X.size) = false := decide_eq_false (by omega)
    go_ret
    exact ⟨ret_bool (by have := HR.out; rw [e, Bool.false_and] at this; exact this), rfl⟩

theorem src_lit {n : Int} (wx : World) : (convert 33 9 (.slice (some ⟨wx.heap.size, 0, none⟩) (enc n).length (enc n).length)).run Try.prog (wx.alloc (.cells (Lib.byteCells (enc n)).toArray 5)) = .ok (.string (bs (enc n))) (wx.alloc (.cells (Lib.byteCells (enc n)).toArray 5)) :=
  conv_src _ _ _ _ (lit_src (enc n) wx (by have := (enc_len n).2; omega))

set_option maxRecDepth 10000 in
set_option maxHeartbeats 4000000 in
theorem rnumber_any (n : Int) (w : World) : Calls Try.prog 16 #[.int .i64 n] w fun e w' => e = .returned (.string (bs (numC n))) ∧ Below w.heap.size w w' := by
  have hc := uchar_any n w
  have hb0 : ∀ wx C, Below w.heap.size w wx → Below w.heap.size w (wx.alloc (.cells C 5)) := fun wx C h => h.alloc h.size _
  obtain ⟨R, hR⟩ : ∃ R, R = bs (numC n) := ⟨_, rfl⟩
  rw [← hR]
  by_cases hbad : n = 0 ∨ ¬ isChar n
  · have HV : Hid (R = bs (enc 65533)) := Lib.hid (by rw [hR, numC_bad hbad, show enc 65533 = fffd by decide])
    have hby := fun wx => bytes_any 65533 odd_char wx
    have hcv := fun wx => src_lit (n := 65533) wx
    generalize hE : enc 65533 = E at hby hcv HV
    generalize E.length = m at hby hcv
    generalize (Lib.byteCells E).toArray = C at hby hcv
    by_cases h0 : n = 0
    · subst h0
      have h00 : chB 0 = true := by decide
      rw [h00] at hc
      have HC := Lib.hid hc
      have HY := Lib.hid hby
      have HB := Lib.hid hb0
      have HCV := Lib.hid hcv
      clear hc hR hbad hby hb0 h00 hE hcv
      go_enter Try.func16, Try.ntmps16
      go_wp2_with fail
      refine HC.out.mono ?_; rintro e w1 ⟨rfl, rfl⟩
      go_wp2_with fail
      refine (HY.out _).mono ?_; rintro e w1 ⟨rfl, hw1⟩
      have hcv := HCV.out w
      rw [← hw1] at hcv
      have HB1 : Hid (Below w.heap.size w w1) := Lib.hid (by rw [hw1]; exact HB.out _ _ (Below.refl _ _))
      clear hw1
      go_wp2
      go_ret
      exact ⟨ret_str HV.out.symm, HB1.out⟩
    · have h1 : ¬ isChar n := by rcases hbad with h | h; (· exact absurd h h0); exact h
      rw [chB_no h1] at hc
      have g0 : (n == 0) = false := by simp [h0]
      have HC := Lib.hid hc
      have HY := Lib.hid hby
      have HB := Lib.hid hb0
      have HCV := Lib.hid hcv
      clear hc hR hbad hby hb0 hE h0 h1 hcv
      go_enter Try.func16, Try.ntmps16
      go_wp2_with fail
      refine HC.out.mono ?_; rintro e w1 ⟨rfl, rfl⟩
      go_wp2_with fail
      refine (HY.out _).mono ?_; rintro e w1 ⟨rfl, hw1⟩
      have hcv := HCV.out w
      rw [← hw1] at hcv
      have HB1 : Hid (Below w.heap.size w w1) := Lib.hid (by rw [hw1]; exact HB.out _ _ (Below.refl _ _))
      clear hw1
      go_wp2
      go_ret
      exact ⟨ret_str HV.out.symm, HB1.out⟩
  have h0 : n ≠ 0 := fun h => hbad (.inl h)
  have hch : isChar n := Decidable.not_not.1 fun h => hbad (.inr h)
  rw [chB_yes hch] at hc
  have g0 : (n == 0) = false := by simp [h0]
  by_cases hm : 128 ≤ n ∧ n ≤ 159
  · obtain ⟨k, rfl⟩ := Int.eq_ofNat_of_zero_le (show 0 ≤ n by omega)
    have hcp := fun wx => rchar_any k (by omega) wx
    have hby := fun wx => bytes_any (cp k : Nat) (cp_char (by omega)) wx
    have HV : Hid (R = bs (enc (cp k : Nat))) := Lib.hid (by rw [hR, numC_cp (by omega) (by omega)])
    have hcv := fun wx => src_lit (n := (cp k : Nat)) wx
    obtain ⟨x, hx⟩ : ∃ x : Int, x = (k : Int) := ⟨_, rfl⟩
    rw [← hx] at hc hm hcp g0 ⊢
    obtain ⟨q1, q2⟩ := hm
    have q6 : x < 256 := by omega
    have q7 : 0 ≤ x := by omega
    generalize ((cp k : Nat) : Int) = v at hcp hby hcv HV
    generalize hE : enc v = E at hby hcv HV
    generalize E.length = m at hby hcv
    generalize (Lib.byteCells E).toArray = C at hby hcv
    have HC := Lib.hid hc
    have HP := Lib.hid hcp
    have HY := Lib.hid hby
    have HB := Lib.hid hb0
    have HCV := Lib.hid hcv
    clear hc hR hbad hby hb0 hE h0 hch hcv hx hcp
    go_enter Try.func16, Try.ntmps16
    go_wp2_with fail
    refine HC.out.mono ?_; rintro e w1 ⟨rfl, rfl⟩
    go_wp2_with fail
    try rw [show x % 256 = x by omega]
    refine (HP.out _).mono ?_; rintro e w2 ⟨rfl, hb2⟩
    have HB2 := Lib.hid hb2
    clear hb2
    go_wp2_with fail
    refine (HY.out _).mono ?_; rintro e w1 ⟨rfl, hw1⟩
    have hcv := HCV.out w2
    rw [← hw1] at hcv
    have HB1 : Hid (Below w.heap.size w w1) := Lib.hid (by rw [hw1]; exact HB.out _ _ HB2.out)
    clear hw1
    go_wp2
    go_ret
    exact ⟨ret_str HV.out.symm, HB1.out⟩
  · have HV : Hid (R = bs (enc n)) := Lib.hid (by rw [hR, numC_plain (by omega) (by omega)])
    have hby := fun wx => bytes_any n hch wx
    have hcv := fun wx => src_lit (n := n) wx
    have q : n < 128 ∨ (128 ≤ n ∧ 159 < n) := by omega
    generalize hE : enc n = E at hby hcv HV
    generalize E.length = m at hby hcv
    generalize (Lib.byteCells E).toArray = C at hby hcv
    have HC := Lib.hid hc
    have HY := Lib.hid hby
    have HB := Lib.hid hb0
    have HCV := Lib.hid hcv
    clear hc hR hbad hby hb0 hE h0 hch hcv hm
    rcases q with q | ⟨q, q'⟩
    all_goals
      go_enter Try.func16, Try.ntmps16
      go_wp2_with fail
      refine HC.out.mono ?_; rintro e w1 ⟨rfl, rfl⟩
      go_wp2_with fail
      refine (HY.out _).mono ?_; rintro e w1 ⟨rfl, hw1⟩
      have hcv := HCV.out w
      rw [← hw1] at hcv
      have HB1 : Hid (Below w.heap.size w w1) := Lib.hid (by rw [hw1]; exact HB.out _ _ (Below.refl _ _))
      clear hw1
      go_wp2
      go_ret
      exact ⟨ret_str HV.out.symm, HB1.out⟩

def allD : Bs := [48, 49, 50, 51, 52, 53, 54, 55, 56, 57, 97, 98, 99, 100, 101, 102]
theorem dg_all : ∀ h : Bool, ∀ n, n < 256 → (∀ k, k < (if h = true then 16 else 10) → (lwr (UInt8.ofNat n)).toNat = (allD.getD k 0).toNat → dg h (UInt8.ofNat n) = (k : Nat)) ∧ ((∀ k, k < (if h = true then 16 else 10) → (lwr (UInt8.ofNat n)).toNat ≠ (allD.getD k 0).toNat) → dg h (UInt8.ofNat n) = -1) := by decide +kernel
theorem dg_c (h : Bool) (c : UInt8) : (∀ k : Nat, (k : Int) < bse h → (lwr c).toNat = (allD.getD k 0).toNat → dg h c = (k : Nat)) ∧ ((∀ k : Nat, (k : Int) < bse h → (lwr c).toNat ≠ (allD.getD k 0).toNat) → dg h c = -1) := by
  have := dg_all h c.toNat c.toNat_lt
  rw [UInt8.ofNat_toNat] at this
  have hb : ∀ k : Nat, ((k : Int) < bse h) = (k < (if h = true then 16 else 10)) := fun k => by unfold bse; cases h <;> simp <;> omega
  simp only [hb]
  exact this

set_option maxRecDepth 10000 in
set_option maxHeartbeats 4000000 in
theorem rdigit_any (h : Bool) (c : UInt8) (w : World) : Calls Try.prog 55 #[.int .u8 c.toNat, .int .i64 (bse h)] w fun e w' => e = .returned (.int .i64 (dg h c)) ∧ Below w.heap.size w w' := by
  obtain ⟨hy, hn⟩ := dg_c h c
  have hsm : ∀ wx, Calls Try.prog 38 #[.int .u8 c.toNat] wx fun e w' => e = .returned (.int .u8 (lwr c).toNat) ∧ w' = wx := fun wx => (small_any c wx).mono fun e w' h => ⟨h.1, h.2.symm⟩
  obtain ⟨A, hA⟩ : ∃ A : ByteArray, A = ⟨#[48, 49, 50, 51, 52, 53, 54, 55, 56, 57, 97, 98, 99, 100, 101, 102]⟩ := ⟨_, rfl⟩
  have hAl : A.data.toList = allD := by rw [hA]; rfl
  have hAs : A.size = 16 := by rw [hA]; rfl
  have hAb : ∀ k (hk : k < A.size), A[k].toNat = (allD.getD k 0).toNat := fun k hk => by rw [byte_getD A k hk, hAl]
  have hy' : ∀ k (hk : k < A.size), (k : Int) < bse h → (((lwr c).toNat : Int) = (A[k].toNat : Int)) → dg h c = (k : Nat) := fun k hk h1 h2 => hy k h1 (by rw [← hAb k hk]; omega)
  have hn' : (∀ k (hk : k < A.size), (k : Int) < bse h → ((lwr c).toNat : Int) ≠ (A[k].toNat : Int)) → dg h c = -1 := fun hh => hn fun k hk e => by
    have hk16 : k < A.size := by rcases bse_is h with hb | hb <;> rw [hb] at hk <;> omega
    exact hh k hk16 hk (by rw [hAb k hk16]; omega)
  obtain ⟨D, hD⟩ : ∃ D, D = dg h c := ⟨_, rfl⟩
  rw [← hD] at hy' hn' ⊢
  have hbs := bse_is h
  obtain ⟨base, hbase⟩ : ∃ x, x = bse h := ⟨_, rfl⟩
  rw [← hbase] at hy' hn' hbs ⊢
  have hbs1 : base ≤ 16 := by omega
  have hbs0 : 0 ≤ base := by omega
  obtain ⟨N, hN⟩ : ∃ N : Nat, (N : Int) = base := ⟨base.toNat, by omega⟩
  subst hN
  have hN16 : N ≤ A.size := by omega
  obtain ⟨y, hyy⟩ : ∃ y : Int, y = ((lwr c).toNat : Int) := ⟨_, rfl⟩
  obtain ⟨x, hx⟩ : ∃ x : Int, x = (c.toNat : Int) := ⟨_, rfl⟩
  rw [← hyy] at hsm hy' hn'
  rw [← hx] at hsm ⊢
  have HSM := Lib.hid hsm
  have HY := Lib.hid hy'
  have HN := Lib.hid hn'
  have HA := Lib.hid hA
  have hAs2 : (A.size : Int) = 16 := by omega
  clear hy hn hsm hAl hAb hy' hn' hD hbs hbase hyy hx hA
  go_enter Try.func55, Try.ntmps55
  go_wp2_with fail
  rw [← HA.out]
  go_loopw [6] (fun i wr => ∃ k : Nat, k ≤ N ∧ i = .int .i64 k ∧ (∀ j (hj : j < A.size), j < k → y ≠ (A[j].toNat : Int)) ∧ Below w.heap.size w wr) (fun i _ => N - (intOf i).toNat)
  case atStart => exact ⟨0, by omega, rfl, fun j hj h => by omega, Below.refl _ _⟩
  case round =>
    obtain ⟨k, hk, rfl, hall, hb⟩ := hrel
    have HB := Lib.hid hb
    clear hb
    have HAL := Lib.hid hall
    clear hall
    by_cases hlt : k < N
    · have hks : k < A.size := by omega
      have hk16 : (k : Int) < 16 := by omega
      by_cases he : y = (A[k].toNat : Int)
      · have HV := Lib.hid (HY.out k hks (by omega) he)
        have g : (y == (A[k].toNat : Int)) = true := by simp [he]
        clear he hAs
        go_wp2_with fail
        go_quiet (first | (go_at_call 38; refine Calls.quiet_of_same (HSM.out _)))
        have HB2 := Lib.hid (HB.out.trans (below_drewN (B := w.heap.size) wr nq))
        obtain ⟨wq, hwq⟩ : ∃ wq, wq = wr.drewN nq := ⟨_, rfl⟩
        rw [← hwq]
        rw [← hwq] at HB2
        clear hwq
        go_wp2
        go_ret
        exact ⟨ret_int HV.out.symm, HB2.out⟩
      · have g : (y == (A[k].toNat : Int)) = false := by rw [beq_eq_false_iff_ne]; exact he
        have HN2 : Hid (∀ j (hj : j < A.size), j < k + 1 → y ≠ (A[j].toNat : Int)) := Lib.hid fun j hj h => by
          by_cases e : j = k
          · subst e; exact he
          · exact HAL.out j hj (by omega)
        clear he
        go_wp2_with fail
        go_quiet (first | (go_at_call 38; refine Calls.quiet_of_same (HSM.out _)))
        have HB2 := Lib.hid (HB.out.trans (below_drewN (B := w.heap.size) wr nq))
        obtain ⟨wq, hwq⟩ : ∃ wq, wq = wr.drewN nq := ⟨_, rfl⟩
        rw [← hwq]
        rw [← hwq] at HB2
        clear hwq
        go_wp2
        go_roundw
        case rel => exact ⟨k + 1, by omega, by go_num, HN2.out, HB2.out⟩
        case measure => simp [intOf]; omega
    · obtain rfl : k = N := by omega
      have HV := Lib.hid (HN.out fun j hj h1 => HAL.out j hj (by omega))
      go_wp2
      go_ret
      exact ⟨ret_int HV.out.symm, HB.out⟩
end Go.Proofs.Ytpepoccoljmmjaa
