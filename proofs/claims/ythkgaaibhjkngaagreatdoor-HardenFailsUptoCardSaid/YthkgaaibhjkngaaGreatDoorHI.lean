/- Harden: a response's text; a failure. -/
import Derived.Test.YthkgaaibhjkngaaGreatDoorHH
import Derived.Deep.RegionHeld3
set_option linter.unusedVariables false
namespace Go.Proofs.YthkgaaibhjkngaaGreatDoor
open Go.RowKit

theorem bounded_any (X : ByteArray) (w : World) : Calls Tryz.prog 41 #[.string X] w fun e w' => e = .returned (.string (if 2048 < X.size then ⟨#[]⟩ else X)) ∧ w = w' := by
  by_cases h : 2048 < X.size
  · rw [if_pos h]
    go_enter Tryz.func41, Tryz.ntmps41
    go_wp2
    go_ret
    exact ⟨rfl, rfl⟩
  · rw [if_neg h]
    go_enter Tryz.func41, Tryz.ntmps41
    go_wp2
    go_ret
    exact ⟨rfl, rfl⟩
theorem status_any (z : Int) (w : World) : Calls Tryz.prog 43 #[.int .i64 z] w fun e w' => e = .returned (.bool (decide (200 ≤ z) && decide (z ≤ 599))) ∧ w = w' := by
  by_cases h : 200 ≤ z
  · by_cases h2 : z ≤ 599
    · have e : (decide (200 ≤ z) && decide (z ≤ 599)) = true := by simp [h, h2]
      rw [e]
      go_enter Tryz.func43, Tryz.ntmps43
      go_wp2
      go_ret
      exact ⟨ret_bool (by simp), rfl⟩
    · have e : (decide (200 ≤ z) && decide (z ≤ 599)) = false := by simp [h2]
      rw [e]
      go_enter Tryz.func43, Tryz.ntmps43
      go_wp2
      go_ret
      exact ⟨ret_bool (by simp), rfl⟩
  · have e : (decide (200 ≤ z) && decide (z ≤ 599)) = false := by simp [h]
    rw [e]
    go_enter Tryz.func43, Tryz.ntmps43
    go_wp2
    go_ret
    exact ⟨ret_bool (by simp), rfl⟩
/-- where the first byte stands that may be in no value -/
def ctl (l : List UInt8) : Int := match l.findIdx? (fun c => !qb c) with | some k => k | none => -1
theorem ctl_none (X : ByteArray) (h : ∀ j (hj : j < X.size), qb X[j] = true) : ctl X.data.toList = -1 := by
  unfold ctl
  rw [List.findIdx?_eq_none_iff.2 (by
    intro x hx
    obtain ⟨i, hi, rfl⟩ := List.getElem_of_mem hx
    have := h i (by rw [len_data] at hi; exact hi)
    have e : X.data.toList[i] = X[i]'(by rw [len_data] at hi; exact hi) := rfl
    rw [e, this]; rfl)]
theorem ctl_at (X : ByteArray) (k : Nat) (hk : k < X.size) (h : ∀ j (hj : j < k), qb (X[j]'(by omega)) = true) (ht : qb X[k] = false) : ctl X.data.toList = k := by
  unfold ctl
  have : X.data.toList.findIdx? (fun c => !qb c) = some k := by
    rw [List.findIdx?_eq_some_iff_getElem]
    refine ⟨by rw [len_data]; exact hk, ?_, fun j hj => ?_⟩
    · have e : X.data.toList[k]'(by rw [len_data]; exact hk) = X[k] := rfl
      rw [e, ht]; rfl
    · have e : X.data.toList[j]'(by rw [len_data]; omega) = X[j]'(by omega) := rfl
      have := h j hj
      simp only [e, this]; simp
  rw [this]
theorem qb_cases (c : UInt8) (b : Bool) (h : qb c = b) : (b = true ∧ ((c.toNat = 9 ∧ (c.toNat : Int) < 32) ∨ (32 ≤ (c.toNat : Int) ∧ (c.toNat : Int) ≠ 127))) ∨ (b = false ∧ (((c.toNat : Int) < 32 ∧ (c.toNat : Int) ≠ 9) ∨ (c.toNat : Int) = 127)) := by
  subst h
  unfold qb
  by_cases h1 : c.toNat = 9
  · left; simp [h1]
  · by_cases h2 : 32 ≤ c.toNat
    · by_cases h3 : c.toNat = 127
      · right; simp [h3]
      · left; simp [h1, h2, h3]; omega
    · right; simp [h1, h2]; omega

set_option maxHeartbeats 4000000 in
theorem control_any (X : ByteArray) (w : World) (hs : X.size ≤ 9223372036854775807) :
    Calls Tryz.prog 44 #[.string X] w fun e w' => e = .returned (.int .i64 (ctl X.data.toList)) ∧ w = w' := by
  have hno := ctl_none X
  have hat := ctl_at X
  obtain ⟨R, hR⟩ : ∃ R, ctl X.data.toList = R := ⟨_, rfl⟩
  rw [hR] at hno hat ⊢
  have HNO := Lib.hid hno
  have HAT := Lib.hid hat
  clear hno hat hR
  go_enter Tryz.func44, Tryz.ntmps44
  go_wp2
  go_loop [3] (fun i => ∃ k : Nat, k ≤ X.size ∧ i = .int .i64 k ∧ ∀ j (hj : j < X.size), j < k → qb X[j] = true) (fun i => X.size - (intOf i).toNat)
  case atStart => exact ⟨0, by omega, rfl, fun j _ h => by omega⟩
  case round =>
    obtain ⟨k, hk, rfl, hall⟩ := hrel
    by_cases hlt : k < X.size
    · have hq := qb_cases X[k] (qb X[k]) rfl
      have hin : qb X[k] = false → R = k := fun h => HAT.out k hlt (fun j hj => hall j (by omega) hj) h
      have hnx : qb X[k] = true → ∀ j (hj : j < X.size), j < k + 1 → qb X[j] = true := fun h j hj hjk => by
        by_cases e : j = k
        · subst e; exact h
        · exact hall j hj (by omega)
      have HI := Lib.hid hin
      have HX := Lib.hid hnx
      clear hin hnx hall
      obtain ⟨x, hx⟩ : ∃ x : Int, x = (X[k].toNat : Int) := ⟨_, rfl⟩
      rcases hq with ⟨hb, h9 | ⟨h32, h127⟩⟩ | ⟨hb, ⟨h32, h9⟩ | h127⟩
      · have HV := Lib.hid (HX.out hb)
        have h9' : (X[k].toNat : Int) = 9 := by omega
        clear HI HX hb h9 hx
        go_wp2
        go_round
        case rel => exact ⟨k + 1, by omega, by go_num, HV.out⟩
        case measure => simp [intOf]; omega
      · have HV := Lib.hid (HX.out hb)
        clear HI HX hb hx
        go_wp2
        go_round
        case rel => exact ⟨k + 1, by omega, by go_num, HV.out⟩
        case measure => simp [intOf]; omega
      · have HV := Lib.hid (HI.out hb)
        clear HI HX hb hx
        go_wp2
        go_ret
        exact ⟨ret_int HV.out.symm, rfl⟩
      · have HV := Lib.hid (HI.out hb)
        clear HI HX hb hx
        go_wp2
        go_ret
        exact ⟨ret_int HV.out.symm, rfl⟩
    · have HV := Lib.hid (HNO.out (fun j hj => hall j hj (by omega)))
      clear hall
      go_wp2
      go_ret
      exact ⟨ret_int HV.out.symm, rfl⟩
end Go.Proofs.YthkgaaibhjkngaaGreatDoor
