/- The document's answer for digits: what it does to any bytes. -/
import Derived.Test.YthkgaaibhjkngaaGreatDoorDB
namespace Go.Proofs.YthkgaaibhjkngaaGreatDoor.Num
open Go.RowKit

theorem fold_ge (base : Int) (hb : 1 ≤ base) (r : List UInt8) : ∀ a : Int, 0 ≤ a → (∀ c ∈ r, 0 ≤ dg c.toNat) → a ≤ r.foldl (fun n c => n * base + dg c.toNat) a := by
  induction r with
  | nil => intro a _ _; simp
  | cons c r ih =>
    intro a ha h
    have h1 := h c (by simp)
    have hm : a ≤ a * base := by
      have := Int.mul_le_mul_of_nonneg_left hb ha
      rwa [Int.mul_one] at this
    have := ih (a * base + dg c.toNat) (by omega) (fun x hx => h x (by simp [hx]))
    simp only [List.foldl_cons]
    omega
theorem val_nonneg (base : Int) (hb : 1 ≤ base) (l : List UInt8) (h : good base l) : 0 ≤ val base l := fold_ge base hb l 0 (by omega) (fun c hc => (h c hc).1)
theorem val_take_le (base : Int) (hb : 1 ≤ base) (l : List UInt8) (h : good base l) (k : Nat) : val base (l.take k) ≤ val base l := by
  have e : val base l = (l.drop k).foldl (fun n c => n * base + dg c.toNat) (val base (l.take k)) := by
    unfold val
    rw [← List.foldl_append, List.take_append_drop]
  rw [e]
  exact fold_ge base hb _ _ (val_nonneg base hb _ (fun c hc => h c (List.mem_of_mem_take hc))) (fun c hc => (h c (List.mem_of_mem_drop hc)).1)
theorem meant_over (base : Int) (hb : 1 ≤ base) (l : List UInt8) (hl : l ≠ []) (h : good base l) (k : Nat) (ho : most < val base (l.take k)) : meant base l = (0, 3) := by
  unfold meant
  have := val_take_le base hb l h k
  rw [if_neg (by simp [hl, h]), if_pos (by omega)]
theorem meant_ok (base : Int) (l : List UInt8) (hl : l ≠ []) (h : good base l) (ho : val base l ≤ most) : meant base l = (val base l, 0) := by
  unfold meant
  rw [if_neg (by simp [hl, h]), if_neg (by omega)]



end Go.Proofs.YthkgaaibhjkngaaGreatDoor.Num
