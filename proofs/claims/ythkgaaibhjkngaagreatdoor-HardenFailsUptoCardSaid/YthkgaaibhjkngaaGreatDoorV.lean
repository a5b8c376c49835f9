/- Words: the document's answer. -/
import Derived.Test.YthkgaaibhjkngaaGreatDoorN
set_option linter.unusedVariables false
namespace Go.Proofs.YthkgaaibhjkngaaGreatDoor
open Go.RowKit

theorem blanks_all : ∀ n : Fin 256, decide ((UInt8.ofNat n.val).toNat = 32 ∨ (UInt8.ofNat n.val).toNat = 9) = blanks.contains (UInt8.ofNat n.val) := by decide +kernel
theorem blanks_is (c : UInt8) : decide (c.toNat = 32 ∨ c.toNat = 9) = blanks.contains c := all_bytes (P := fun c => decide (c.toNat = 32 ∨ c.toNat = 9) = blanks.contains c) blanks_all c
theorem blank_any (c : UInt8) (w : World) :
    Calls Tryz.prog 135 #[.int .u8 c.toNat] w fun e w' => e = .returned (.bool (blanks.contains c)) ∧ w = w' := by
  obtain ⟨x, hx⟩ : ∃ x : Int, x = (c.toNat : Int) := ⟨_, rfl⟩
  rw [← blanks_is, ← hx]
  by_cases h : x = 32
  · have HV : Hid (decide (c.toNat = 32 ∨ c.toNat = 9) = true) := Lib.hid (by simp; omega)
    generalize decide (c.toNat = 32 ∨ c.toNat = 9) = b at HV ⊢
    clear hx
    subst h
    go_enter Tryz.func135, Tryz.ntmps135
    go_wp2
    go_ret
    exact ⟨ret_bool HV.out.symm, rfl⟩
  by_cases h2 : x = 9
  · have HV : Hid (decide (c.toNat = 32 ∨ c.toNat = 9) = true) := Lib.hid (by simp; omega)
    generalize decide (c.toNat = 32 ∨ c.toNat = 9) = b at HV ⊢
    clear hx
    subst h2
    go_enter Tryz.func135, Tryz.ntmps135
    go_wp2
    go_ret
    exact ⟨ret_bool HV.out.symm, rfl⟩
  · have HV : Hid (decide (c.toNat = 32 ∨ c.toNat = 9) = false) := Lib.hid (by simp; omega)
    generalize decide (c.toNat = 32 ∨ c.toNat = 9) = b at HV ⊢
    have e1 : (x == 32) = false := by simp [h]
    have e2 : (x == 9) = false := by simp [h2]
    clear hx h h2
    go_enter Tryz.func135, Tryz.ntmps135
    go_wp2
    go_ret
    exact ⟨ret_bool HV.out.symm, rfl⟩

theorem marks_no (c : UInt8) (h : ∀ j, j < 15 → (marks.getD j 0).toNat ≠ c.toNat) : marks.contains c = false := by
  cases hc : marks.contains c
  · rfl
  · exfalso
    rw [List.contains_iff_mem] at hc
    obtain ⟨j, hj, e⟩ := List.getElem_of_mem hc
    refine h j hj ?_
    rw [getD_at' hj, e]
theorem marks_yes (c : UInt8) (j : Nat) (hj : j < 15) (h : (marks.getD j 0).toNat = c.toNat) : marks.contains c = true := by
  rw [List.contains_iff_mem]
  have hj' : j < marks.length := hj
  rw [getD_at' hj'] at h
  have : marks[j] = c := UInt8.toNat_inj.1 h
  rw [← this]; exact List.getElem_mem hj'

set_option maxHeartbeats 4000000 in
theorem tchar_any (c : UInt8) (w : World) :
    Calls Tryz.prog 117 #[.int .u8 c.toNat] w fun e w' => e = .returned (.bool (tch c)) ∧ w = w' := by
  obtain ⟨x, hx⟩ : ∃ x : Int, x = (c.toNat : Int) := ⟨_, rfl⟩
  have hyes : (97 ≤ x ∧ x ≤ 122) ∨ (65 ≤ x ∧ x ≤ 90) ∨ (48 ≤ x ∧ x ≤ 57) → tch c = true := fun h => by
    unfold tch
    simp only [Bool.or_eq_true, Bool.and_eq_true, decide_eq_true_eq]
    left; omega
  have hno : ¬ ((97 ≤ x ∧ x ≤ 122) ∨ (65 ≤ x ∧ x ≤ 90) ∨ (48 ≤ x ∧ x ≤ 57)) → tch c = marks.contains c := fun h => by
    unfold tch
    have e : ((decide (97 ≤ c.toNat) && decide (c.toNat ≤ 122)) || (decide (65 ≤ c.toNat) && decide (c.toNat ≤ 90)) || (decide (48 ≤ c.toNat) && decide (c.toNat ≤ 57))) = false := by
      simp only [Bool.or_eq_false_iff, Bool.and_eq_false_iff, decide_eq_false_iff_not]; omega
    rw [e, Bool.false_or]
  have hm1 : (∀ j, j < 15 → ((marks.getD j 0).toNat : Int) ≠ x) → marks.contains c = false := fun h => marks_no c (fun j hj => by have := h j hj; omega)
  have hm2 : ∀ j, j < 15 → ((marks.getD j 0).toNat : Int) = x → marks.contains c = true := fun j hj h => marks_yes c j hj (by omega)
  rw [← hx]
  generalize tch c = r at hyes hno ⊢
  generalize marks.contains c = m at hno hm1 hm2
  have HY := Lib.hid hyes
  have HN := Lib.hid hno
  have HM1 := Lib.hid hm1
  have HM2 := Lib.hid hm2
  clear hyes hno hx hm1 hm2
  have hcase : (97 ≤ x ∧ x ≤ 122) ∨ (x ≤ 122 ∧ x < 97 ∧ 65 ≤ x ∧ x ≤ 90) ∨ (x < 97 ∧ x < 65 ∧ 48 ≤ x ∧ x ≤ 57) ∨ (97 ≤ x ∧ 122 < x ∧ 90 < x ∧ 65 ≤ x ∧ 57 < x ∧ 48 ≤ x) ∨ (x < 97 ∧ 65 ≤ x ∧ 90 < x ∧ 48 ≤ x ∧ 57 < x) ∨ (x < 97 ∧ x < 65 ∧ 48 ≤ x ∧ 57 < x) ∨ (x < 97 ∧ x < 65 ∧ x < 48) := by omega
  rcases hcase with ⟨g1, g2⟩ | ⟨g1, g2, g3, g4⟩ | ⟨g1, g2, g3, g4⟩ | ⟨g1, g2, g3, g4, g5, g6⟩ | ⟨g1, g2, g3, g4, g5⟩ | ⟨g1, g2, g3, g4⟩ | ⟨g1, g2, g3⟩
  · have HV := Lib.hid (HY.out (by omega))
    go_enter Tryz.func117, Tryz.ntmps117
    go_wp2
    go_ret
    exact ⟨ret_bool HV.out.symm, rfl⟩
  · have HV := Lib.hid (HY.out (by omega))
    go_enter Tryz.func117, Tryz.ntmps117
    go_wp2
    go_ret
    exact ⟨ret_bool HV.out.symm, rfl⟩
  · have HV := Lib.hid (HY.out (by omega))
    go_enter Tryz.func117, Tryz.ntmps117
    go_wp2
    go_ret
    exact ⟨ret_bool HV.out.symm, rfl⟩
  all_goals
    have HV := Lib.hid (HN.out (by omega))
    clear HY HN
    go_enter Tryz.func117, Tryz.ntmps117
    go_wp2_with fail
    obtain ⟨M, hM⟩ : ∃ M : ByteArray, M = ⟨#[33, 35, 36, 37, 38, 39, 42, 43, 45, 46, 94, 95, 96, 124, 126]⟩ := ⟨_, rfl⟩
    rw [← hM]
    have hMs : M.size = 15 := by rw [hM]; rfl
    have hMl : M.data.toList = marks := by rw [hM]; rfl
    have hat : ∀ k (h : k < M.size), M[k] = marks.getD k 0 := fun k h => by rw [byte_getD M k h, hMl]
    have HAT := Lib.hid hat
    clear hat hMl hM
    go_loop [4] (fun i => ∃ k : Nat, k ≤ M.size ∧ i = .int .i64 k ∧ ∀ j, j < k → ((marks.getD j 0).toNat : Int) ≠ x) (fun i => M.size - (intOf i).toNat)
    case atStart => exact ⟨0, by omega, rfl, fun j h => by omega⟩
    case round =>
      obtain ⟨k, hk, rfl, hall⟩ := hrel
      have HA := Lib.hid hall
      clear hall
      by_cases hlt : k < M.size
      · have hx := HAT.out k hlt
        by_cases he : (M[k].toNat : Int) = x
        · have HV2 : Hid (r = true) := Lib.hid (by rw [HV.out]; exact HM2.out k (by omega) (by rw [← hx]; exact he))
          have e1 : ((M[k].toNat : Int) == x) = true := by simp [he]
          clear hx he
          go_wp2
          go_ret
          exact ⟨ret_bool HV2.out.symm, rfl⟩
        · have e1 : ((M[k].toNat : Int) == x) = false := by simp [he]
          have HN2 : Hid (∀ j, j < k + 1 → ((marks.getD j 0).toNat : Int) ≠ x) := Lib.hid fun j h => by
            by_cases e : j = k
            · subst e; rw [← hx]; exact he
            · exact HA.out j (by omega)
          clear hx he
          go_wp2
          go_round
          case rel => exact ⟨k + 1, by omega, by go_num, HN2.out⟩
          case measure => simp [intOf]; omega
      · have HV2 : Hid (r = false) := Lib.hid (by rw [HV.out]; exact HM1.out (fun j hj => HA.out j (by omega)))
        go_wp2
        go_ret
        exact ⟨ret_bool HV2.out.symm, rfl⟩

set_option maxHeartbeats 2000000 in
theorem rToken_any (X : ByteArray) (w : World) (hs : X.size ≤ 9223372036854775807) :
    Calls Tryz.prog 89 #[.string X] w fun e w' => e = .returned (.bool (isTok X.data.toList)) ∧ w = w' := by
  have hll := len_data X
  have hc : ∀ k (h : k < X.size) wx, Calls Tryz.prog 117 #[.int .u8 X[k].toNat] wx fun e w' => e = .returned (.bool (tch (X.data.toList.getD k 0))) ∧ wx = w' := fun k h wx => by
    rw [byte_getD X k h]; exact tchar_any _ wx
  have ht := fun k hk h h2 => tok_getD X.data.toList k hk h h2
  rw [hll] at ht
  have hv := fun (h : 0 < X.size) => isTok_ne (nonempty_beq h).2.2
  have hv0 : X.size = 0 → isTok X.data.toList = false := fun h => by have := empty_beq h; subst this; rfl
  rw [hll] at hv
  generalize tok X.data.toList = t at ht hv
  generalize isTok X.data.toList = r at hv hv0 ⊢
  obtain ⟨tc, htc⟩ : ∃ tc : Nat → Bool, tc = fun k => tch (X.data.toList.getD k 0) := ⟨_, rfl⟩
  have hc2 : ∀ k (h : k < X.size) wx, Calls Tryz.prog 117 #[.int .u8 X[k].toNat] wx fun e w' => e = .returned (.bool (tc k)) ∧ wx = w' := by rw [htc]; exact hc
  have ht2 : ∀ k, k ≤ X.size → (∀ j, j < k → tc j = true) → (k < X.size → tc k = false) → t = k := by rw [htc]; exact ht
  have HC := Lib.hid hc2
  have HT := Lib.hid ht2
  have HR := Lib.hid hv
  have HR0 := Lib.hid hv0
  clear hc ht hll htc hc2 ht2 hv hv0
  go_enter Tryz.func89, Tryz.ntmps89
  go_wp2_with fail
  go_loop [3] (fun i => ∃ k : Nat, k ≤ X.size ∧ i = .int .i64 k ∧ ∀ j, j < k → tc j = true) (fun i => X.size - (intOf i).toNat)
  case atStart => exact ⟨0, by omega, rfl, fun j h => by omega⟩
  case round =>
    obtain ⟨k, hk, rfl, hall⟩ := hrel
    have HA := Lib.hid hall
    clear hall
    by_cases hlt : k < X.size
    · have hc := HC.out k hlt
      cases hb : tc k with
      | true =>
        rw [hb] at hc
        have H := Lib.hid hc
        have HN : Hid (∀ j, j < k + 1 → tc j = true) := Lib.hid fun j h => by
          by_cases e : j = k
          · subst e; exact hb
          · exact HA.out j (by omega)
        clear hc hb
        go_wp2_with fail
        refine (H.out _).mono ?_; rintro e w1 ⟨rfl, rfl⟩
        go_wp2
        go_round
        case rel => exact ⟨k + 1, by omega, by go_num, HN.out⟩
        case measure => simp [intOf]; omega
      | false =>
        rw [hb] at hc
        have H := Lib.hid hc
        have HV : Hid (r = false) := Lib.hid (by rw [HR.out (by omega), HT.out k hk HA.out (fun _ => hb)]; simp; omega)
        clear hc hb
        go_wp2_with fail
        refine (H.out _).mono ?_; rintro e w1 ⟨rfl, rfl⟩
        go_wp2
        go_ret
        exact ⟨ret_bool HV.out.symm, rfl⟩
    · have he : k = X.size := by omega
      rcases Nat.eq_zero_or_pos X.size with h0 | h0
      · have HV := Lib.hid (HR0.out h0)
        have hx := empty_beq h0
        subst hx
        clear h0
        go_wp2
        go_ret
        exact ⟨ret_bool HV.out.symm, rfl⟩
      · have HV : Hid (r = true) := Lib.hid (by rw [HR.out h0, HT.out k hk HA.out (fun h => absurd h hlt)]; simp [he])
        obtain ⟨hn1, hn2, _⟩ := nonempty_beq h0
        subst he
        go_wp2
        go_ret
        exact ⟨ret_bool HV.out.symm, rfl⟩
end Go.Proofs.YthkgaaibhjkngaaGreatDoor
