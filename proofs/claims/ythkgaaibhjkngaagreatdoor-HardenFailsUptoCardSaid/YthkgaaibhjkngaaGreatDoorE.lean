/- Quoted strings: the program's. -/
import Derived.Test.YthkgaaibhjkngaaGreatDoorM
set_option linter.unusedVariables false
namespace Go.Proofs.YthkgaaibhjkngaaGreatDoor
open Go.RowKit

theorem qb_yes {c : UInt8} (h : c.toNat = 9 ∨ (32 ≤ c.toNat ∧ c.toNat ≠ 127)) : qb c = true := by
  unfold qb; simp only [Bool.or_eq_true, Bool.and_eq_true, decide_eq_true_eq, Bool.not_eq_true', decide_eq_false_iff_not]; omega
theorem qb_no {c : UInt8} (h : ¬ (c.toNat = 9 ∨ (32 ≤ c.toNat ∧ c.toNat ≠ 127))) : qb c = false := by
  cases hq : qb c
  · rfl
  · unfold qb at hq; simp only [Bool.or_eq_true, Bool.and_eq_true, decide_eq_true_eq, Bool.not_eq_true', decide_eq_false_iff_not] at hq; omega
set_option maxHeartbeats 1000000 in
theorem quotable_any (c : UInt8) (w : World) :
    Calls Tryz.prog 160 #[.int .u8 c.toNat] w fun e w' => e = .returned (.bool (qb c)) ∧ w = w' := by
  obtain ⟨x, hx⟩ : ∃ x : Int, x = (c.toNat : Int) := ⟨_, rfl⟩
  rw [← hx]
  have hcase : x = 9 ∨ (x ≠ 9 ∧ 32 ≤ x ∧ x ≠ 127) ∨ x = 127 ∨ (x ≠ 9 ∧ x < 32) := by omega
  rcases hcase with h | ⟨h1, h2, h3⟩ | h | ⟨h1, h2⟩
  · have HV := Lib.hid (qb_yes (c := c) (by omega))
    clear hx
    subst h
    go_enter Tryz.func160, Tryz.ntmps160
    go_wp2
    go_ret
    exact ⟨ret_bool HV.out.symm, rfl⟩
  · have HV := Lib.hid (qb_yes (c := c) (by omega))
    have e1 : (x == 9) = false := by simp [h1]
    have e2 : (x == 127) = false := by simp [h3]
    have e3 : (x != 127) = true := by simp [h3]
    clear hx h1 h3
    go_enter Tryz.func160, Tryz.ntmps160
    go_wp2
    go_ret
    exact ⟨ret_bool HV.out.symm, rfl⟩
  · have HV := Lib.hid (qb_no (c := c) (by omega))
    clear hx
    subst h
    go_enter Tryz.func160, Tryz.ntmps160
    go_wp2
    go_ret
    exact ⟨ret_bool HV.out.symm, rfl⟩
  · have HV := Lib.hid (qb_no (c := c) (by omega))
    have e1 : (x == 9) = false := by simp [h1]
    clear hx h1
    go_enter Tryz.func160, Tryz.ntmps160
    go_wp2
    go_ret
    exact ⟨ret_bool HV.out.symm, rfl⟩

theorem all_getD (l : List UInt8) : (∀ j, j < l.length → qb (l.getD j 0) = true) → l.all qb = true := fun h => by
  rw [List.all_eq_true]
  intro c hc
  obtain ⟨j, hj, rfl⟩ := List.getElem_of_mem hc
  rw [← getD_at' hj]; exact h j hj
theorem all_not (l : List UInt8) (j : Nat) (hj : j < l.length) (h : qb (l.getD j 0) = false) : l.all qb = false := by
  rw [getD_at' hj] at h
  cases ha : l.all qb
  · rfl
  · rw [List.all_eq_true] at ha; rw [ha _ (List.getElem_mem hj)] at h; cases h


theorem made_lit (w : World) (base : Nat) (l : List UInt8) (h : base ≤ w.heap.size) (hl : l.length ≤ 1000) : OwnB (w.alloc (.cells (Lib.byteCells l).toArray 5)) base (.slice (some ⟨w.heap.size, 0, none⟩) l.length l.length) l := by
  refine ⟨by simp [Lib.byteCells], .inr ⟨w.heap.size, l.length, (Lib.byteCells l).toArray, rfl, h, by show (w.heap.push _)[w.heap.size]? = _; simp, Nat.le_refl _, by unfold maxLen; omega, by simp [Lib.byteCells], ?_⟩⟩
  rw [Nat.mul_one, List.take_of_length_le (by simp [Lib.byteCells])]

/-- what is quoted so far -/
def quoTo (l : List UInt8) (k : Nat) : List UInt8 := 34 :: (l.take k).flatMap esc
theorem quoTo_step (l : List UInt8) (k : Nat) (hk : k < l.length) : quoTo l (k + 1) = quoTo l k ++ esc (l.getD k 0) := by
  unfold quoTo
  rw [List.take_succ_eq_append_getElem hk, List.flatMap_append, getD_at' hk]; simp
theorem esc_two {c : UInt8} (h : c.toNat = 34 ∨ c.toNat = 92) : esc c = [92] ++ [c] := by unfold esc; rw [if_pos h]; rfl
theorem esc_one {c : UInt8} (h : ¬ (c.toNat = 34 ∨ c.toNat = 92)) : esc c = [c] := by unfold esc; rw [if_neg h]
theorem quoTo_len (l : List UInt8) (k : Nat) : (quoTo l k).length ≤ 1 + 2 * k := by
  unfold quoTo
  induction k with
  | zero => simp
  | succ k ih =>
    by_cases hk : k < l.length
    · rw [List.take_succ_eq_append_getElem hk, List.flatMap_append]
      have : (esc l[k]).length ≤ 2 := by unfold esc; split <;> simp
      simp only [List.length_cons, List.length_append, List.flatMap_cons, List.flatMap_nil, List.append_nil] at ih ⊢
      omega
    · rw [List.take_of_length_le (by omega)] at ih ⊢; omega
theorem quote_len (l : List UInt8) : (quote l).length ≤ 2 + 2 * l.length := by
  unfold quote
  split
  · have := quoTo_len l l.length
    unfold quoTo at this
    rw [List.take_length] at this
    simp only [List.length_cons, List.length_append, List.length_nil] at this ⊢
    omega
  · simp


end Go.Proofs.YthkgaaibhjkngaaGreatDoor
