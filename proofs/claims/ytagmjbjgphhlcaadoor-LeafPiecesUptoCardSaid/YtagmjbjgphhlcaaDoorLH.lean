/- An encoding's label: the document's. -/
import Derived.Test.YtagmjbjgphhlcaaDoorLG
set_option linter.unusedVariables false
namespace Go.Proofs.YtagmjbjgphhlcaaDoor
open Go.RowKit

def spB (c : UInt8) : Bool := spaces.contains c
theorem spB_yes (c : UInt8) (h : c.toNat = 9 ∨ c.toNat = 10 ∨ c.toNat = 12 ∨ c.toNat = 13 ∨ c.toNat = 32) : spB c = true := by
  rcases h with h | h | h | h | h
  all_goals
    have hc := congrArg UInt8.ofNat h
    rw [UInt8.ofNat_toNat] at hc
    subst hc; rfl
theorem spB_no (c : UInt8) (h : ¬ (c.toNat = 9 ∨ c.toNat = 10 ∨ c.toNat = 12 ∨ c.toNat = 13 ∨ c.toNat = 32)) : spB c = false := by
  cases hs : spB c
  · rfl
  · exfalso
    apply h
    unfold spB spaces at hs
    simp only [List.contains_cons, List.contains_nil, Bool.or_false, Bool.or_eq_true, beq_iff_eq] at hs
    rcases hs with h | h | h | h | h <;> subst h <;> decide
theorem ret_bool' {a b : Bool} (h : a = b) : Ending.returned (.bool a) = .returned (.bool b) := by rw [h]
set_option maxHeartbeats 2000000 in
theorem space_any (c : UInt8) (w : World) :
    Calls Tryd.prog 30 #[.int .u8 c.toNat] w fun e w' => e = .returned (.bool (spB c)) ∧ w = w' := by
  obtain ⟨x, hx⟩ : ∃ x : Int, x = (c.toNat : Int) := ⟨_, rfl⟩
  rw [← hx]
  by_cases h9 : x = 9
  · have HV := Lib.hid (spB_yes c (by omega))
    clear hx
    subst h9
    go_enter Tryd.func30, Tryd.ntmps30
    go_wp2
    go_ret
    exact ⟨ret_bool' HV.out.symm, rfl⟩
  by_cases h10 : x = 10
  · have HV := Lib.hid (spB_yes c (by omega))
    clear hx h9
    subst h10
    go_enter Tryd.func30, Tryd.ntmps30
    go_wp2
    go_ret
    exact ⟨ret_bool' HV.out.symm, rfl⟩
  by_cases h12 : x = 12
  · have HV := Lib.hid (spB_yes c (by omega))
    clear hx h9 h10
    subst h12
    go_enter Tryd.func30, Tryd.ntmps30
    go_wp2
    go_ret
    exact ⟨ret_bool' HV.out.symm, rfl⟩
  by_cases h13 : x = 13
  · have HV := Lib.hid (spB_yes c (by omega))
    clear hx h9 h10 h12
    subst h13
    go_enter Tryd.func30, Tryd.ntmps30
    go_wp2
    go_ret
    exact ⟨ret_bool' HV.out.symm, rfl⟩
  by_cases h32 : x = 32
  · have HV := Lib.hid (spB_yes c (by omega))
    clear hx h9 h10 h12 h13
    subst h32
    go_enter Tryd.func30, Tryd.ntmps30
    go_wp2
    go_ret
    exact ⟨ret_bool' HV.out.symm, rfl⟩
  have HV := Lib.hid (spB_no c (by omega))
  clear hx
  have g9 : (x == 9) = false := by simp [h9]
  have g10 : (x == 10) = false := by simp [h10]
  have g12 : (x == 12) = false := by simp [h12]
  have g13 : (x == 13) = false := by simp [h13]
  have g32 : (x == 32) = false := by simp [h32]
  clear h9 h10 h12 h13 h32
  go_enter Tryd.func30, Tryd.ntmps30
  go_wp2
  go_ret
  exact ⟨ret_bool' HV.out.symm, rfl⟩

def labsC (c : Nat) : List (List UInt8) := if c = 1 then labs1 else if c = 2 then labs2 else if c = 3 then labs3 else []
def LsB (c : Nat) : List ByteArray := (labsC c).map fun l => ⟨l.toArray⟩
theorem strs_cells (w : World) (L : List ByteArray) : ∀ j (hj : j < L.length), (w.alloc (.cells (L.map Value.string).toArray 9)).cell? ⟨w.heap.size, j, none⟩ = some (.string L[j]) := by
  intro j hj
  have hb : (w.alloc (.cells (L.map Value.string).toArray 9)).heap[w.heap.size]? = some (.cells (L.map Value.string).toArray 9 (0, 0)) := by
    show (w.heap.push _)[w.heap.size]? = _; simp
  rw [Lib.cell_of_heap hb]
  simp [hj]
set_option maxHeartbeats 2000000 in
theorem labels_any (c : Nat) (h1 : 1 ≤ c) (h3 : c ≤ 3) (w : World) :
    Calls Tryd.prog 32 #[.int .i64 c] w fun e w' => ∃ B, e = .returned (.slice (some ⟨B, 0, none⟩) (LsB c).length (LsB c).length) ∧ (∀ j (hj : j < (LsB c).length), w'.cell? ⟨B, j, none⟩ = some (.string (LsB c)[j])) ∧ B < w'.heap.size ∧ Below w.heap.size w w' := by
  have hc : c = 1 ∨ c = 2 ∨ c = 3 := by omega
  rcases hc with rfl | rfl | rfl
  all_goals
    have hb := fun C => (Below.refl w.heap.size w).alloc (Nat.le_refl _) (.cells C 9)
    have HB := Lib.hid hb
    clear hb
    go_enter Tryd.func32, Tryd.ntmps32
    go_wp2
    go_ret
    first
      | exact ⟨_, rfl, strs_cells w (LsB 1), by simp, HB.out _⟩
      | exact ⟨_, rfl, strs_cells w (LsB 2), by simp, HB.out _⟩
      | exact ⟨_, rfl, strs_cells w (LsB 3), by simp, HB.out _⟩
end Go.Proofs.YtagmjbjgphhlcaaDoor
