/- The bytes of a ring as a list: what putting does to it. -/
import Derived.Test.YtbhipgiaifbpfaaC
namespace Go.Proofs.Ytbhipgiaifbpfaa
open Go.RowKit

theorem splice_map {α β : Type} (f : α → β) (L : List α) (off : Nat) (cs : List α) : splice (L.map f) off (cs.map f) = (splice L off cs).map f := by
  simp [splice]
theorem splice_getD (L cs : List UInt8) (off i : Nat) (h : off + cs.length ≤ L.length) :
    (splice L off cs).getD i 0 = if off ≤ i ∧ i < off + cs.length then cs.getD (i - off) 0 else L.getD i 0 := by
  unfold splice
  simp only [List.getD_eq_getElem?_getD]
  by_cases h1 : i < off
  · rw [List.getElem?_append_left (by simp; omega), if_neg (by omega), List.getElem?_take, if_pos h1]
  · rw [List.getElem?_append_right (by simp; omega)]
    have e : (L.take off).length = off := by simp; omega
    rw [e]
    by_cases h2 : i < off + cs.length
    · rw [List.getElem?_append_left (by omega), if_pos ⟨by omega, h2⟩]
    · rw [List.getElem?_append_right (by omega), if_neg (by omega), List.getElem?_drop]
      congr 2; omega
theorem queue_len (most first n : Nat) (d : List UInt8) : (queue most first n d).length = n := by simp [queue]
theorem queue_put {most first n m k1 : Nat} {d l : List UInt8} (hl : d.length = most) (hf : first < most) (hn : n + m ≤ most) (hm : m ≤ l.length) (hk : k1 = min m (most - (first + n) % most)) :
    queue most first (n + m) (splice (splice d ((first + n) % most) (l.take k1)) 0 ((l.drop k1).take (m - k1))) = queue most first n d ++ l.take m := by
  have hfr : (first + n) % most < most := Nat.mod_lt _ (by omega)
  have hl1 : (l.take k1).length = k1 := by simp; omega
  have hl2 : ((l.drop k1).take (m - k1)).length = m - k1 := by simp; omega
  have hls : (splice d ((first + n) % most) (l.take k1)).length = most := by rw [length_splice _ _ _ (by omega)]; exact hl
  have hfm := mod_at (most := most) (x := first + n) (by omega)
  apply List.ext_getElem
  · rw [List.length_append, queue_len, queue_len, List.length_take]; omega
  · intro i h1 h2
    rw [queue_len] at h1
    simp only [queue, List.getElem_map, List.getElem_range]
    rw [splice_getD _ _ _ _ (by omega), splice_getD _ _ _ _ (by omega), hl1, hl2]
    have hmi := mod_at (most := most) (x := first + i) (by omega)
    by_cases hi : i < n
    · rw [List.getElem_append_left (by simp; exact hi)]
      simp only [List.getElem_map, List.getElem_range]
      rw [if_neg (by split at hfm <;> split at hmi <;> omega), if_neg (by split at hfm <;> split at hmi <;> omega)]
    · rw [List.getElem_append_right (by simp; omega)]
      simp only [List.length_map, List.length_range, List.getElem_take]
      have hil : i - n < l.length := by omega
      by_cases h3 : (first + n) % most + (i - n) < most
      · have e : (first + i) % most = (first + n) % most + (i - n) := by split at hfm <;> split at hmi <;> omega
        rw [e, if_neg (by omega), if_pos (by omega)]
        simp only [List.getD_eq_getElem?_getD]
        rw [show (first + n) % most + (i - n) - (first + n) % most = i - n by omega, List.getElem?_take, if_pos (by omega), List.getElem?_eq_getElem hil]; rfl
      · have e : (first + i) % most = (first + n) % most + (i - n) - most := by split at hfm <;> split at hmi <;> omega
        rw [e, if_pos (by omega)]
        simp only [List.getD_eq_getElem?_getD]
        rw [List.getElem?_take, if_pos (by omega), List.getElem?_drop, List.getElem?_eq_getElem (by omega), Option.getD_some]
        congr 1; omega
theorem queue_drop {most first n k : Nat} {d : List UInt8} : queue most ((first + k) % most) (n - k) d = (queue most first n d).drop k := by
  apply List.ext_getElem
  · simp [queue]
  · intro i h1 h2
    simp only [queue, List.getElem_map, List.getElem_range, List.getElem_drop]
    congr 1
    rw [Nat.mod_add_mod]; congr 1; omega
theorem queue_zero (most first : Nat) (d : List UInt8) : queue most first 0 d = [] := rfl
end Go.Proofs.Ytbhipgiaifbpfaa
