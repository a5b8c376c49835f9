/- The longest name, a number, a reference: the program's. -/
import Derived.Test.YtpepoccoljmmjaaRC
set_option linter.unusedVariables false
namespace Go.Proofs.Ytpepoccoljmmjaa
open Go.RowKit Go.Shelf

set_option maxHeartbeats 4000000 in
theorem find_any (X : ByteArray) (w : World) (hs : X.size ≤ 9223372036854775807) :
    Calls Try.prog 13 #[.string X] w fun e w' => e = .returned (.tuple #[.string (bs (fnd X.data.toList).1), .int .i64 ((fnd X.data.toList).2 : Nat)]) ∧ w = w' := by
  have hn : ∀ n, n ≤ X.size → ∀ wx, Calls Try.prog 29 #[.string (X.extract 0 n)] wx fun e w' => e = .returned (.string (bs (nm (X.data.toList.take n)))) ∧ wx = w' := fun n h wx => by
    have := named_any (X.extract 0 n) wx (by rw [ext_size _ _ _ h]; omega)
    rwa [ext_list _ _ _ h, List.drop_zero] at this
  have hll := len_data X
  obtain ⟨F, hF⟩ : ∃ F, F = fnd X.data.toList := ⟨_, rfl⟩
  rw [← hF]
  have hsome : ∀ k, 0 < k → k ≤ X.size → nm (X.data.toList.take k) ≠ [] → (∀ m, k < m → m ≤ X.size → nm (X.data.toList.take m) = []) → F = (nm (X.data.toList.take k), k) := fun k h0 h1 h2 h3 => by
    rw [hF]; exact fnd_some h0 (by omega) h2 (by rw [hll]; exact h3)
  have hnone : (∀ m, 0 < m → m ≤ X.size → nm (X.data.toList.take m) = []) → F = ([], 0) := fun h => by
    rw [hF]; exact fnd_none (by rw [hll]; exact h)
  have hbig : ∀ m, 14 < m → m ≤ X.size → nm (X.data.toList.take m) = [] := fun m h1 h2 => Decidable.not_not.1 fun h => by
    have := (nm_len h).2
    rw [List.length_take] at this; omega
  have hstr : ∀ B : ByteArray, ∀ A : Bs, B = bs A → (A = [] → B.toList = []) ∧ (A ≠ [] → B.toList.isEmpty = false) := fun B A h => by
    subst h; rw [toList_data', show (bs A).data.toList = A from data_mk A]; exact ⟨id, fun h => by simp [h]⟩
  obtain ⟨tk', htk⟩ : ∃ f : Nat → Bs, f = fun n => nm (X.data.toList.take n) := ⟨_, rfl⟩
  have e1 : ∀ n, nm (X.data.toList.take n) = tk' n := fun n => by rw [htk]
  simp only [e1] at hn hsome hnone hbig
  obtain ⟨N, hN⟩ : ∃ N : Nat, N = min X.size 14 := ⟨_, rfl⟩
  have hNi : min (X.size : Int) 14 = N := by omega
  have hN1 : N ≤ X.size := by omega
  have hN2 : Hid (X.size ≤ N ∨ N = 14) := Lib.hid (by omega)
  have HN := Lib.hid hn
  have HS := Lib.hid hsome
  have HO := Lib.hid hnone
  have HB := Lib.hid hbig
  have HT := Lib.hid hstr
  clear hn hsome hnone hbig hF hll e1 htk hN hstr
  go_enter Try.func13, Try.ntmps13
  go_wp2_with fail
  try rw [hNi]
  clear hNi
  go_loop [4] (fun i => ∃ k : Nat, k ≤ N ∧ i = .int .i64 k ∧ ∀ m, k < m → m ≤ X.size → tk' m = []) (fun i => (intOf i).toNat)
  case atStart => exact ⟨N, by omega, rfl, fun m h1 h2 => by rcases hN2.out with h | h; (· omega); exact HB.out m (by omega) h2⟩
  case round =>
    obtain ⟨k, hk, rfl, hall⟩ := hrel
    have HA := Lib.hid hall
    clear hall
    by_cases h0 : k = 0
    · subst h0
      have HV := Lib.hid (HO.out HA.out)
      go_wp2
      go_ret2
      exact ⟨ret_si (by rw [HV.out]; rfl) (by rw [HV.out]; rfl), rfl⟩
    · have hk0 : 0 < (k : Int) := by omega
      have hks : k ≤ X.size := by omega
      have H := Lib.hid (HN.out k hks)
      obtain ⟨BA, hBA⟩ : ∃ x, x = bs (tk' k) := ⟨_, rfl⟩
      rw [← hBA] at H
      obtain ⟨ht1, ht2⟩ := HT.out BA _ hBA
      by_cases he : tk' k = []
      · have h1 := ht1 he
        have HN2 : Hid (∀ m, k - 1 < m → m ≤ X.size → tk' m = []) := Lib.hid fun m h3 h4 => by
          by_cases e : m = k
          · subst e; exact he
          · exact HA.out m (by omega) h4
        clear ht1 ht2 he hBA
        go_wp2_with fail
        refine (H.out _).mono ?_; rintro e w1 ⟨rfl, rfl⟩
        go_wp2
        go_round
        case rel => exact ⟨k - 1, by omega, by go_num, HN2.out⟩
        case measure => simp [intOf]; omega
      · have h1 := ht2 he
        have HV := Lib.hid (HS.out k (by omega) hks he HA.out)
        have HBA := Lib.hid hBA
        clear ht1 ht2 he hBA
        go_wp2_with fail
        refine (H.out _).mono ?_; rintro e w1 ⟨rfl, rfl⟩
        go_wp2
        go_ret2
        exact ⟨ret_si (by rw [HV.out]; exact HBA.out) (by rw [HV.out]), rfl⟩

set_option maxHeartbeats 2000000 in
theorem letter_any (c : UInt8) (w : World) : Calls Try.prog 54 #[.int .u8 c.toNat] w fun e w' => e = .returned (.bool (isLet c)) ∧ w = w' := by
  have h255 : (c.toNat : Int) ≤ 255 := by have := c.toNat_lt; omega
  obtain ⟨x, hx⟩ : ∃ x : Int, x = (c.toNat : Int) := ⟨_, rfl⟩
  have h0 : 0 ≤ x := by omega
  have hv : isLet c = ((decide (97 ≤ x) && decide (x ≤ 122)) || (decide (65 ≤ x) && decide (x ≤ 90))) := by unfold isLet; rw [Bool.eq_iff_iff]; simp; omega
  rw [hv, ← hx]
  clear hv hx
  by_cases a : 97 ≤ x <;> by_cases b : x ≤ 122 <;> by_cases d : 65 ≤ x <;> by_cases f : x ≤ 90
  all_goals first | omega | skip
  all_goals
    go_enter Try.func54, Try.ntmps54
    go_wp2
    go_ret
    exact ⟨ret_bool (by simp [a, b, d, f]), rfl⟩

set_option maxHeartbeats 4000000 in
theorem digit_any (h : Bool) (c : UInt8) (w : World) : Calls Try.prog 40 #[.int .u8 c.toNat, .int .i64 (bse h)] w fun e w' => e = .returned (.int .i64 (dg h c)) ∧ w = w' := by
  have h255 : (c.toNat : Int) ≤ 255 := by have := c.toNat_lt; omega
  obtain ⟨v, hv⟩ : ∃ v, v = dg h c := ⟨_, rfl⟩
  rw [← hv]
  unfold dg at hv
  obtain ⟨x, hx⟩ : ∃ x : Int, x = (c.toNat : Int) := ⟨_, rfl⟩
  have h0 : 0 ≤ x := by omega
  replace hv : v = if 48 ≤ x ∧ x ≤ 57 then x - 48 else if h = true ∧ 97 ≤ x ∧ x ≤ 102 then x - 87 else if h = true ∧ 65 ≤ x ∧ x ≤ 70 then x - 55 else -1 := by
    rw [hv, ← hx]; simp only [show (48 ≤ c.toNat) = (48 ≤ x) from propext (by omega), show (c.toNat ≤ 57) = (x ≤ 57) from propext (by omega), show (97 ≤ c.toNat) = (97 ≤ x) from propext (by omega), show (c.toNat ≤ 102) = (x ≤ 102) from propext (by omega), show (65 ≤ c.toNat) = (65 ≤ x) from propext (by omega), show (c.toNat ≤ 70) = (x ≤ 70) from propext (by omega)]
  rw [← hx] at h255 ⊢
  clear hx
  by_cases a : 48 ≤ x ∧ x ≤ 57
  · obtain ⟨a1, a2⟩ := a
    have HV : Hid (v = x - 48) := Lib.hid (by rw [hv, if_pos ⟨a1, a2⟩])
    clear hv
    go_enter Try.func40, Try.ntmps40
    go_wp2
    go_ret
    exact ⟨ret_int HV.out.symm, rfl⟩
  rw [if_neg a] at hv
  have a' : x < 48 ∨ (48 ≤ x ∧ 57 < x) := by omega
  clear a
  cases h
  · have HV : Hid (v = -1) := Lib.hid (by rw [hv]; simp)
    clear hv
    simp only [bse]
    rcases a' with a | ⟨a, a2⟩
    all_goals
      go_enter Try.func40, Try.ntmps40
      go_wp2
      go_ret
      exact ⟨ret_int HV.out.symm, rfl⟩
  · simp only [bse, if_true, true_and] at hv ⊢
    by_cases b : 97 ≤ x ∧ x ≤ 102
    · obtain ⟨b1, b2⟩ := b
      have HV : Hid (v = x - 97 + 10) := Lib.hid (by rw [hv, if_pos ⟨b1, b2⟩]; omega)
      have b3 : 48 ≤ x := by omega
      have b4 : 57 < x := by omega
      clear hv a'
      go_enter Try.func40, Try.ntmps40
      go_wp2
      go_ret
      exact ⟨ret_int HV.out.symm, rfl⟩
    rw [if_neg b] at hv
    by_cases d : 65 ≤ x ∧ x ≤ 70
    · obtain ⟨b1, b2⟩ := d
      have HV : Hid (v = x - 65 + 10) := Lib.hid (by rw [hv, if_pos ⟨b1, b2⟩]; omega)
      have b3 : 48 ≤ x := by omega
      have b4 : 57 < x := by omega
      have b5 : x < 97 := by omega
      clear hv a' b
      go_enter Try.func40, Try.ntmps40
      go_wp2
      go_ret
      exact ⟨ret_int HV.out.symm, rfl⟩
    rw [if_neg d] at hv
    have HV := Lib.hid hv
    have b' : x < 48 ∨ (48 ≤ x ∧ 57 < x ∧ x < 65) ∨ (48 ≤ x ∧ 57 < x ∧ 65 ≤ x ∧ 70 < x ∧ x < 97) ∨ (48 ≤ x ∧ 57 < x ∧ 65 ≤ x ∧ 70 < x ∧ 97 ≤ x ∧ 102 < x) := by omega
    clear a' b d hv
    rcases b' with q1 | ⟨q1, q2, q3⟩ | ⟨q1, q2, q3, q4, q5⟩ | ⟨q1, q2, q3, q4, q5, q6⟩
    all_goals
      go_enter Try.func40, Try.ntmps40
      go_wp2
      go_ret
      exact ⟨ret_int HV.out.symm, rfl⟩

end Go.Proofs.Ytpepoccoljmmjaa
